"""Points 5 to 7: shapes, corners, places, counts and balances."""

import unittest

from holebook.errors import NoLevel, NoPiece, NoShape
from holebook.shapes import balance, corners, count_of, is_shape, places, shape_of
from tests.samples import EXAMPLE, FORTY, LOOP, MIXED, POINT, SHAPES, TETRA, TIGHT, odd_things

NO_LISTS = [(), ((),), "", "p", 0, 1, -1] + odd_things()

# Each with the place of the first piece that does not fit.
MISFITS = (
    ([(0, 0)], 0),
    ([None], 0),
    ([[]], 0),
    ([(0,)], 0),
    ([(), ((),)], 1),
    ([(), (0, 1)], 1),
    ([(), (0, True)], 1),
    ([(), (0, 0), (1, 1, 0)], 2),
    ([(), (), [0, 1]], 2),
    ([(), (0, 0), (1, 1, 1), (2, 2, 2, 1)], 3),
    (EXAMPLE[::-1], 0),
    (TETRA[:12] + TETRA[13:12:-1] + TETRA[12:13] + TETRA[14:], 14),
    (TETRA + ["p", None, (0,)], 15),
    (FORTY[:39] + [(39, 39)], 39),
    (FORTY[:39] + [True], 39),
    ([(), (5, 5), (), (), (), (0, 0, 0)], 1),
)


class TestIsShape(unittest.TestCase):
    def test_shapes(self):
        for shape in SHAPES:
            self.assertIs(is_shape(shape), True)
            for many in range(len(shape)):
                self.assertIs(is_shape(shape[:many]), True)

    def test_bounds(self):
        self.assertIs(is_shape([]), True)
        self.assertIs(is_shape([()] * 40), True)
        self.assertIs(is_shape([()] * 41), False)
        self.assertIs(is_shape(FORTY), True)
        self.assertIs(is_shape(FORTY + [()]), False)
        self.assertIs(is_shape([()] * 300), False)

    def test_no_lists(self):
        for thing in NO_LISTS + [tuple(EXAMPLE)]:
            self.assertIs(is_shape(thing), False)

    def test_pieces_that_do_not_fit(self):
        for thing, place in MISFITS:
            self.assertIs(is_shape(thing), False, place)
        for thing in odd_things() + ["", "p", 0, [], [0, 0]]:
            self.assertIs(is_shape([thing]), False)
            self.assertIs(is_shape([(), thing, ()]), False)

    def test_a_list_that_holds_itself(self):
        thing = [()]
        thing.append(thing)
        self.assertIs(is_shape(thing), False)


class TestShapeOf(unittest.TestCase):
    def test_the_same_pieces(self):
        for shape in SHAPES:
            told = shape_of(shape)
            self.assertEqual(told, shape)
            self.assertIsInstance(told, list)

    def test_no_lists(self):
        for thing in NO_LISTS + [tuple(EXAMPLE)]:
            with self.assertRaises(NoShape):
                shape_of(thing)

    def test_bounds(self):
        self.assertEqual(shape_of([()] * 40), [()] * 40)
        for thing in ([()] * 41, FORTY + [()], [()] * 300):
            with self.assertRaises(NoShape):
                shape_of(thing)

    def test_no_shape_ahead_of_no_piece(self):
        for thing in ([None] * 41, [()] * 40 + [(0,)], [(0, 0)] + [()] * 40, (None,), ((0, 0),)):
            with self.assertRaises(NoShape):
                shape_of(thing)

    def test_the_place_of_the_first_misfit(self):
        for thing, place in MISFITS:
            with self.assertRaises(NoPiece) as caught:
                shape_of(thing)
            self.assertEqual(caught.exception.place, place)
            self.assertIs(type(caught.exception.place), int)

    def test_odd_pieces(self):
        for thing in odd_things() + ["", "p", 0, [], [0, 0]]:
            with self.assertRaises(NoPiece) as caught:
                shape_of([(), (), thing])
            self.assertEqual(caught.exception.place, 2)

    def test_a_new_list(self):
        handed = list(EXAMPLE)
        told = shape_of(handed)
        self.assertIsNot(told, handed)
        told.append(())
        self.assertEqual(handed, EXAMPLE)
        again = shape_of(handed)
        self.assertEqual(again, EXAMPLE)
        handed.clear()
        self.assertEqual(again, EXAMPLE)
        self.assertIsNot(shape_of([]), shape_of([]))

    def test_what_is_refused_stays_and_can_be_asked_again(self):
        handed = [(), (0, 0), [1, 1, 1]]
        for turn in range(2):
            with self.assertRaises(NoPiece):
                shape_of(handed)
            self.assertEqual(handed, [(), (0, 0), [1, 1, 1]])
        handed[2] = (1, 1, 1)
        self.assertEqual(shape_of(handed), TIGHT[:3])


class TestCorners(unittest.TestCase):
    def test_a_tetrahedron(self):
        wanted = [[0], [1], [2], [3],
                  [0, 1], [0, 2], [0, 3], [1, 2], [1, 3], [2, 3],
                  [0, 1, 2], [0, 1, 3], [0, 2, 3], [1, 2, 3],
                  [0, 1, 2, 3]]
        self.assertEqual([corners(TETRA, place) for place in range(15)], wanted)

    def test_corners_that_are_alike(self):
        self.assertEqual([corners(TIGHT, place) for place in range(4)], [[0], [0, 0], [0, 0, 0], [0, 0, 0, 0]])
        self.assertEqual(corners(EXAMPLE, 4), [0, 0, 0])
        self.assertEqual(corners(MIXED, 3), [2, 0])
        self.assertEqual(corners(MIXED, 5), [0, 2])
        self.assertEqual(corners(MIXED, 8), [2, 0, 0])

    def test_points_far_behind(self):
        shape = [(), (), (), (2, 1), (2, 0), (1, 0)]
        self.assertEqual(corners(shape + [(3, 4, 5)], 6), [0, 1, 2])

    def test_a_face_lacks_one_corner(self):
        for shape in SHAPES:
            for place, piece in enumerate(shape):
                told = corners(shape, place)
                self.assertEqual(len(told), max(len(piece), 1))
                for i, face in enumerate(piece):
                    self.assertEqual(corners(shape, face), told[:i] + told[i + 1:])

    def test_told_lists_are_the_askers_own(self):
        shape = list(TETRA)
        for place in range(15):
            told = corners(shape, place)
            told.append(99)
            told[0] = 77
            self.assertEqual(corners(shape, place), corners(TETRA, place))
            self.assertNotIn(77, corners(shape, place))
        self.assertEqual(shape, TETRA)


class TestPlaces(unittest.TestCase):
    def test_each_level_rising(self):
        self.assertEqual([places(TETRA, k) for k in range(4)],
                         [[0, 1, 2, 3], [4, 5, 6, 7, 8, 9], [10, 11, 12, 13], [14]])
        self.assertEqual([places(MIXED, k) for k in range(4)], [[0, 2, 6, 10], [1, 3, 5, 9], [4, 8], [7]])
        self.assertEqual([places(POINT, k) for k in range(4)], [[0], [], [], []])
        self.assertEqual([places([], k) for k in range(4)], [[], [], [], []])

    def test_no_level(self):
        for thing in odd_things() + [-1, 4, 5, 10 ** 60, -10 ** 60, "", "0", "1", (), (0,), [], [1]]:
            for shape in ([], TETRA):
                with self.assertRaises(NoLevel):
                    places(shape, thing)

    def test_told_lists_are_the_askers_own(self):
        shape = list(MIXED)
        told = places(shape, 0)
        told.clear()
        self.assertEqual(places(shape, 0), [0, 2, 6, 10])
        kept = places(shape, 1)
        shape.clear()
        self.assertEqual(kept, [1, 3, 5, 9])
        self.assertIsNot(places([], 3), places([], 3))


class TestCounts(unittest.TestCase):
    def test_count(self):
        self.assertEqual(count_of([]), [0, 0, 0, 0])
        self.assertEqual(count_of(POINT), [1, 0, 0, 0])
        self.assertEqual(count_of(LOOP), [1, 1, 0, 0])
        self.assertEqual(count_of(EXAMPLE), [1, 3, 2, 0])
        self.assertEqual(count_of(TIGHT), [1, 1, 1, 1])
        self.assertEqual(count_of(MIXED), [4, 4, 2, 1])
        self.assertEqual(count_of(TETRA), [4, 6, 4, 1])
        self.assertEqual(count_of(FORTY), [15, 16, 8, 1])

    def test_balance(self):
        self.assertEqual(balance([]), 0)
        self.assertEqual(balance(POINT), 1)
        self.assertEqual(balance(LOOP), 0)
        self.assertEqual(balance(EXAMPLE), 0)
        self.assertEqual(balance(TIGHT), 0)
        self.assertEqual(balance(MIXED), 1)
        self.assertEqual(balance(TETRA), 1)
        self.assertEqual(balance(FORTY), 6)
        self.assertEqual(balance([(), (0, 0), (0, 0), (0, 0), (0, 0)]), -3)
        self.assertEqual(balance(TIGHT + [(2, 2, 2, 2)] * 4), -4)
        self.assertEqual(balance(TETRA[:14]), 2)

    def test_told_lists_are_the_askers_own(self):
        shape = list(TETRA)
        told = count_of(shape)
        told[0] = 99
        told.append(1)
        self.assertEqual(count_of(shape), [4, 6, 4, 1])
        self.assertEqual(balance(shape), 1)
        self.assertEqual(shape, TETRA)


if __name__ == "__main__":
    unittest.main()
