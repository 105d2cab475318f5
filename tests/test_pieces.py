"""Points 4 and 5: the level of a piece, and what fits behind a shape."""

import itertools
import unittest

from holebook.pieces import fits, level_of
from tests.samples import EXAMPLE, FORTY, LOOP, MIXED, POINT, SHAPES, TETRA, TIGHT, odd_things

SIDE_TEN = 15
TRIANGLE_TEN = 16


def all_that_fit(shape):
    """Every tuple of up to five numbers from -1 to somewhat beyond the list that fits."""
    numbers = range(-1, len(shape) + 1)
    told = set()
    for many in range(6 if len(shape) < 8 else 5):
        for faces in itertools.product(numbers, repeat=many):
            if fits(shape, faces):
                told.add(faces)
    return told


def pairs_of(numbers):
    return set(itertools.product(numbers, repeat=2))


class TestLevel(unittest.TestCase):
    def test_level_by_the_number_of_faces(self):
        self.assertEqual(level_of(()), 0)
        self.assertEqual(level_of((0, 0)), 1)
        self.assertEqual(level_of((7, 9)), 1)
        self.assertEqual(level_of((1, 3, 2)), 2)
        self.assertEqual(level_of((2, 2, 2, 2)), 3)

    def test_level_is_a_whole_number(self):
        for piece in TIGHT:
            self.assertIs(type(level_of(piece)), int)


class TestFits(unittest.TestCase):
    def test_each_level(self):
        for shape in SHAPES:
            for place, piece in enumerate(shape):
                self.assertIs(fits(shape[:place], piece), True)
                self.assertIs(fits(shape, piece), True)

    def test_behind_no_pieces(self):
        self.assertEqual(all_that_fit([]), {()})

    def test_behind_a_point(self):
        self.assertEqual(all_that_fit(POINT), {(), (0, 0)})

    def test_behind_a_loop(self):
        self.assertEqual(all_that_fit(LOOP), {(), (0, 0), (1, 1, 1)})

    def test_behind_one_piece_of_each_level(self):
        self.assertEqual(all_that_fit(TIGHT), {(), (0, 0), (1, 1, 1), (2, 2, 2, 2)})

    def test_behind_the_example(self):
        triangles = set(itertools.product((1, 2, 3), repeat=3))
        self.assertEqual(all_that_fit(EXAMPLE), {(), (0, 0)} | triangles)

    def test_behind_a_tetrahedron(self):
        triangles = {(7, 5, 4), (8, 6, 4), (9, 6, 5), (9, 8, 7)}
        wanted = {(), (13, 12, 11, 10)} | pairs_of(range(4)) | triangles
        self.assertEqual(all_that_fit(TETRA), wanted)

    def test_other_numbers_of_faces(self):
        for faces in ((0,), (0,) * 5, (1,), (1,) * 5, (2,) * 5, (3,) * 5, (2,) * 6, (0,) * 40):
            self.assertIs(fits(TIGHT, faces), False, faces)

    def test_a_face_that_is_no_whole_number(self):
        for piece, shape in (((0, 0), POINT), ((1, 1, 1), LOOP), ((2, 2, 2, 2), TIGHT)):
            for at in range(len(piece)):
                for thing in odd_things() + ["", "0", "p", (), (0,), (0, 0), [], [0]]:
                    faces = piece[:at] + (thing,) + piece[at + 1:]
                    self.assertIs(fits(shape, faces), False)

    def test_truths_in_the_places_they_could_be_taken_for(self):
        self.assertIs(fits([(), ()], (1, 0)), True)
        self.assertIs(fits([(), ()], (True, 0)), False)
        self.assertIs(fits([(), ()], (1, False)), False)
        self.assertIs(fits([(), ()], (True, False)), False)
        self.assertIs(fits(LOOP, (1, True, 1)), False)
        self.assertIs(fits(LOOP, (1.0, 1, 1)), False)

    def test_a_place_beyond_the_list_or_below(self):
        for bad in (1, 2, 40, 10 ** 60, -1, -2, -40, -10 ** 60):
            self.assertIs(fits(POINT, (0, bad)), False)
            self.assertIs(fits(POINT, (bad, 0)), False)
        for bad in (2, 3, -1, -10 ** 30):
            for at in range(3):
                faces = [1, 1, 1]
                faces[at] = bad
                self.assertIs(fits(LOOP, tuple(faces)), False)
        for bad in (4, -2, 99):
            for at in range(4):
                faces = [2, 2, 2, 2]
                faces[at] = bad
                self.assertIs(fits(TIGHT, tuple(faces)), False)

    def test_the_piece_itself_is_no_face_of_its_own(self):
        self.assertIs(fits([], (0, 0)), False)
        self.assertIs(fits(TIGHT[:2], (2, 2, 2)), False)

    def test_a_face_of_another_level(self):
        for piece in TIGHT[1:]:
            for at in range(len(piece)):
                for place in range(4):
                    faces = piece[:at] + (place,) + piece[at + 1:]
                    self.assertIs(fits(TIGHT, faces), place == piece[0])

    def test_things_that_are_no_tuples(self):
        for thing in odd_things() + ["", "0", "p p", [], [0, 0], [1, 1, 1], [2, 2, 2, 2], 0, 2, -1]:
            self.assertIs(fits(TIGHT, thing), False)
            self.assertIs(fits([], thing), False)

    def test_a_face_that_stands_twice_and_more(self):
        self.assertIs(fits(POINT, (0, 0)), True)
        self.assertIs(fits(EXAMPLE, (1, 1, 2)), True)
        self.assertIs(fits(EXAMPLE, (1, 2, 1)), True)
        self.assertIs(fits(EXAMPLE, (2, 1, 1)), True)
        self.assertIs(fits(TIGHT, (2, 2, 2, 2)), True)

    def test_behind_forty_pieces(self):
        self.assertEqual(len(FORTY), 40)
        for piece in ((), (39, 0), (7, 5, 4), (13, 12, 11, 10)):
            self.assertIs(fits(FORTY, piece), True)
        for piece in ((40, 0), (7, 4, 5), (13, 12, 10, 11), (0,), None):
            self.assertIs(fits(FORTY, piece), False)


class TestAgreement(unittest.TestCase):
    """Each pair of face numbers i below j is looked at by itself."""

    def test_triangles(self):
        # The sides of one triangle, and for each number j one with a stray point as its face number i.
        for j in range(3):
            for i in range(j):
                shape = TETRA[:10] + [()]
                stray = list(shape[(7, 5, 4)[j]])
                stray[i] = 10
                shape.append(tuple(stray))
                faces = [7, 5, 4]
                self.assertIs(fits(shape, tuple(faces)), True)
                faces[j] = 11
                self.assertIs(fits(shape, tuple(faces)), False, (i, j))

    def test_tetrahedra(self):
        # The stray triangle has in its face number i a side with the same points as the right one.
        for j in range(4):
            for i in range(j):
                faces = [13, 12, 11, 10]
                right = TETRA[faces[j]]
                shape = TETRA + [TETRA[right[i]]]
                shape.append(right[:i] + (SIDE_TEN,) + right[i + 1:])
                self.assertIs(fits(shape[:-1], shape[-1]), True)
                self.assertIs(fits(shape, tuple(faces)), True)
                faces[j] = TRIANGLE_TEN
                self.assertIs(fits(shape, tuple(faces)), False, (i, j))

    def test_faces_in_another_order(self):
        for faces in itertools.permutations((7, 5, 4)):
            self.assertIs(fits(TETRA, faces), faces == (7, 5, 4))
        for faces in itertools.permutations((13, 12, 11, 10)):
            self.assertIs(fits(TETRA, faces), faces == (13, 12, 11, 10))


class TestNothingChanges(unittest.TestCase):
    def test_what_is_handed_in_stays(self):
        for shape in SHAPES:
            handed = list(shape)
            for thing in ((), (0, 0), (1, 1, 1), (9, 9, 9, 9), [0, 0], None):
                told = fits(handed, thing)
                self.assertEqual(handed, shape)
                self.assertIs(fits(handed, thing), told)
        thing = [0, 0]
        fits(MIXED, thing)
        self.assertEqual(thing, [0, 0])


if __name__ == "__main__":
    unittest.main()
