"""Points 21 and 22: parts, shapes beside one another, and gluing."""

import copy
import itertools
import random
import unittest

from holebook.errors import NoGlue, NoShape
from holebook.gluing import beside, glued, part
from holebook.holes import Book
from holebook.maps import is_map
from holebook.shapes import is_shape
from tests.makers import (GREAT, all_shapes, glued_by_hand, grown_shapes, level, pairs_to_glue, part_by_hand,
                          side_by_side, wound_disc)
from tests.samples import EXAMPLE, FORTY, LOOP, MIXED, POINT, SHAPES, TETRA, TIGHT, odd_things

# No place of EXAMPLE is among these.
NO_PLACES = odd_things() + [-1, -6, 6, 7, 40, GREAT, -GREAT, "", "0", "p", (), (0,), [], [0]]
# No pair to glue EXAMPLE along is among these.
NO_PAIRS = odd_things() + [0, 1, "", "01", (), (1,), (1, 2, 3), [1, 2], [], ((1, 2),), (0, 1), (1, 0), (3, 4), (5, 2),
                           (0, 5), (1, 6), (6, 1), (-1, 4), (5, -1), (-1, -1), (6, 6), (1, GREAT), (1, None),
                           (None, 1), (True, 1), (1, True), (False, 0), (0, False), (1, 2.0), (1.0, 2), ("1", 2),
                           (1, "2"), ((1,), 2), (1, [2])]


class TestPart(unittest.TestCase):
    def check(self, shape, places):
        kept = list(shape), list(places)
        told = part(shape, places)
        self.assertEqual((shape, places), kept)
        self.assertEqual([type(thing) for thing in (told, told[0], told[1])], [tuple, list, list])
        self.assertEqual(told, part_by_hand(shape, places))
        self.assertIs(is_shape(told[0]), True)
        self.assertIs(is_map(told[1], told[0], shape), True)
        return told

    def test_small_parts(self):
        self.assertEqual(part(TETRA, [10]), ([(), (), (), (1, 0), (2, 0), (2, 1), (5, 4, 3)], [0, 1, 2, 4, 5, 7, 10]))
        self.assertEqual(part(TETRA, [9, 0]), ([(), (), (), (2, 1)], [0, 2, 3, 9]))
        self.assertEqual(part(EXAMPLE, [5]), ([(), (0, 0), (0, 0), (0, 0), (2, 3, 1)], [0, 1, 2, 3, 5]))
        self.assertEqual(part(MIXED, [8]), ([(), (0, 0), (), (0, 2), (1, 3, 3)], [0, 1, 2, 3, 8]))
        self.assertEqual(part(MIXED, [10, 6]), ([(), ()], [6, 10]))

    def test_no_places(self):
        for shape in SHAPES:
            self.assertEqual(part(shape, []), ([], []))

    def test_all_places(self):
        for shape in all_shapes(211):
            self.assertEqual(part(shape, list(range(len(shape)))), (shape, list(range(len(shape)))))

    def test_each_place(self):
        for shape in all_shapes(212):
            for place in range(len(shape)):
                self.check(shape, [place])

    def test_twice_and_in_any_order(self):
        chance = random.Random(213)
        for shape in all_shapes(213):
            places = [chance.randrange(len(shape)) for turn in range(chance.randint(0, 9))] if shape else []
            told = self.check(shape, places)
            self.assertEqual(part(shape, places + places), told)
            self.assertEqual(part(shape, places[::-1]), told)
            self.assertEqual(part(shape, sorted(places)), told)
        self.assertEqual(part(LOOP, [1] * 300), (LOOP, [0, 1]))

    def test_the_least_one(self):
        for shape in (EXAMPLE, MIXED, TETRA, TIGHT):
            for pair in itertools.combinations(range(len(shape)), 2):
                less, kept = self.check(shape, list(pair))
                for place in kept:
                    # Without it the others, or the places asked for, would not be all there.
                    self.assertTrue(place in pair or any(place in shape[other] for other in kept))

    def test_of_a_part_again(self):
        for shape in all_shapes(214, 2):
            for place in range(len(shape)):
                less, kept = part(shape, [place])
                self.assertEqual(part(less, [len(less) - 1]), (less, list(range(len(less)))))

    def test_no_places_of_the_shape(self):
        for thing in NO_PLACES:
            for places in ([thing], [0, thing], [thing, 5, 0], [1, 2, thing, 3]):
                with self.assertRaises(NoGlue):
                    part(EXAMPLE, places)
        for thing in NO_PLACES + [0]:
            with self.assertRaises(NoGlue):
                part([], [thing])

    def test_what_is_refused_stays_and_can_be_asked_again(self):
        shape, places = list(LOOP), [1, 2]
        for turn in range(2):
            with self.assertRaises(NoGlue):
                part(shape, places)
            self.assertEqual((shape, places), (LOOP, [1, 2]))
        places.pop()
        self.assertEqual(part(shape, places), (LOOP, [0, 1]))

    def test_the_askers_own(self):
        shape, places = list(EXAMPLE), list(range(6))
        told = part(shape, places)
        told[0].append(())
        told[1].clear()
        self.assertEqual((shape, places), (EXAMPLE, list(range(6))))
        told = part(shape, places)
        self.assertEqual(told, (EXAMPLE, list(range(6))))
        shape.clear()
        places.clear()
        self.assertEqual(told, (EXAMPLE, list(range(6))))


class TestBeside(unittest.TestCase):
    def test_two_shapes(self):
        self.assertEqual(beside(LOOP, LOOP), [(), (0, 0), (), (2, 2)])
        self.assertEqual(beside(POINT, TIGHT), [(), (), (1, 1), (2, 2, 2), (3, 3, 3, 3)])
        self.assertEqual(beside(TIGHT, POINT), TIGHT + [()])

    def test_all_shapes(self):
        shapes = [shape for shape in all_shapes(221, 2, 20) if len(shape) <= 20]
        for one in shapes:
            for other in shapes:
                kept = list(one), list(other)
                told = beside(one, other)
                self.assertIs(type(told), list)
                self.assertEqual((one, other), kept)
                self.assertEqual(told, side_by_side(one, other))
                self.assertIs(is_shape(told), True)

    def test_no_pieces(self):
        for shape in all_shapes(222, 2):
            self.assertEqual(beside(shape, []), shape)
            self.assertEqual(beside([], shape), shape)
        self.assertEqual(beside([], []), [])

    def test_both_go_into_it(self):
        for one, other in ((EXAMPLE, TETRA), (LOOP, EXAMPLE), (TIGHT, TIGHT)):
            told = beside(one, other)
            self.assertIs(is_map(list(range(len(one))), one, told), True)
            self.assertIs(is_map([len(one) + place for place in range(len(other))], other, told), True)

    def test_forty_and_more(self):
        self.assertEqual(beside(FORTY, []), FORTY)
        self.assertEqual(beside([], FORTY), FORTY)
        self.assertEqual(beside(FORTY[:39], POINT), FORTY[:39] + [()])
        self.assertEqual(beside([()] * 20, [()] * 20), [()] * 40)
        for one, other in ((FORTY, POINT), (POINT, FORTY), ([()] * 21, [()] * 20), (FORTY, FORTY), (FORTY[:39], LOOP)):
            kept = list(one), list(other)
            for turn in range(2):
                with self.assertRaises(NoShape):
                    beside(one, other)
            self.assertEqual((one, other), kept)

    def test_the_askers_own(self):
        for one, other in ((LOOP, EXAMPLE), (LOOP, []), ([], LOOP), ([], [])):
            mine, theirs = list(one), list(other)
            told = beside(mine, theirs)
            wanted = list(told)
            told.append(None)
            self.assertEqual((mine, theirs, beside(mine, theirs)), (one, other, wanted))
            told = beside(mine, theirs)
            mine.append(())
            theirs.append(())
            self.assertEqual(told, wanted)
        both = list(LOOP)
        self.assertEqual(beside(both, both), [(), (0, 0), (), (2, 2)])
        self.assertEqual(both, LOOP)


class TestGlued(unittest.TestCase):
    def check(self, shape, pairs):
        kept = copy.deepcopy((shape, pairs))
        told = glued(shape, pairs)
        self.assertEqual((shape, pairs), kept)
        self.assertEqual([type(thing) for thing in (told, told[0], told[1])], [tuple, list, list])
        self.assertEqual(told, glued_by_hand(shape, pairs))
        new, spots = told
        self.assertIs(is_shape(new), True)
        self.assertIs(is_map(spots, shape, new), True)
        # Lots come in the order of their first places.
        firsts = [spots.index(spot) for spot in range(len(new))]
        self.assertEqual(firsts, sorted(firsts))
        return told

    def test_small_gluings(self):
        self.assertEqual(glued([(), (), (1, 0)], [(0, 1)]), ([(), (0, 0)], [0, 0, 1]))
        self.assertEqual(glued([(), (), (1, 0)], [(1, 0)]), ([(), (0, 0)], [0, 0, 1]))
        self.assertEqual(glued([()] * 5, [(4, 1), (3, 0)]), ([()] * 3, [0, 1, 2, 0, 1]))
        self.assertEqual(glued([()] * 5, [(4, 1), (3, 4)]), ([()] * 3, [0, 1, 2, 1, 1]))

    def test_faces_become_one_too(self):
        shape = [(), (), (), (), (1, 0), (3, 2)]
        self.assertEqual(glued(shape, [(4, 5)]), ([(), (), (1, 0)], [0, 1, 0, 1, 2, 2]))
        self.assertEqual(glued([(), (), (1, 0), (0, 1)], [(2, 3)]), ([(), (0, 0)], [0, 0, 1, 1]))

    def test_and_so_on_down(self):
        # Each side of the triangle has the corners of another one, so all become one.
        told = self.check(TETRA, [(10, 13)])
        self.assertEqual(told[1][:4], [0, 0, 0, 0])
        two = side_by_side(TETRA, TETRA)
        self.assertEqual(self.check(two, [(14, 29)]), (TETRA, list(range(15)) * 2))
        self.assertEqual(self.check(two, [(29, 14)]), (TETRA, list(range(15)) * 2))
        sphere, spots = self.check(two, [(place, 15 + place) for place in range(10, 14)])
        self.assertEqual(sphere, TETRA + [TETRA[14]])

    def test_shapes_out_of_a_square(self):
        # Points, sides around, the one across, two triangles.
        square = [(), (), (), (), (1, 0), (2, 1), (3, 0), (2, 3), (2, 0), (5, 8, 4), (7, 8, 6)]
        twists = {((4, 7), (5, 6)): (2, []), ((4, 7),): (1, []), (): (0, [])}
        for pairs, (count, wanted) in twists.items():
            book = Book(self.check(square, list(pairs))[0])
            self.assertEqual((book.count(1), book.twists(1)), (count, wanted))
        torus = self.check(square, [(4, 7), (5, 6)])[0]
        self.assertEqual(torus, [(), (0, 0), (0, 0), (0, 0), (2, 3, 1), (1, 3, 2)])

    def test_no_pairs_and_a_place_with_itself(self):
        for shape in all_shapes(231):
            same = list(range(len(shape)))
            self.assertEqual(glued(shape, []), (shape, same))
            self.assertEqual(glued(shape, [(place, place) for place in same]), (shape, same))

    def test_each_pair(self):
        for shape in (LOOP, EXAMPLE, MIXED, TETRA, TIGHT, wound_disc(6)) + tuple(grown_shapes(232, 1, 14)):
            for one in range(len(shape)):
                for other in range(len(shape)):
                    if level(shape[one]) == level(shape[other]):
                        self.check(shape, [(one, other)])

    def test_by_chance(self):
        chance = random.Random(233)
        for shape in all_shapes(233, 8):
            for many in (1, 2, 4, 9):
                self.check(shape, pairs_to_glue(chance, shape, many))

    def test_the_order_of_the_pairs_does_not_count(self):
        chance = random.Random(234)
        for shape in all_shapes(234, 3):
            pairs = pairs_to_glue(chance, shape, 5)
            told = glued(shape, pairs)
            self.assertEqual(glued(shape, pairs[::-1]), told)
            self.assertEqual(glued(shape, [pair[::-1] for pair in pairs]), told)
            self.assertEqual(glued(shape, pairs + pairs), told)

    def test_very_many_pairs(self):
        self.assertEqual(glued([()] * 40, [(i % 40, (i * 7) % 40) for i in range(300)]),
                         glued_by_hand([()] * 40, [(i % 40, (i * 7) % 40) for i in range(300)]))
        self.assertEqual(glued([()] * 40, [(i, i + 1) for i in range(38, -1, -1)]), ([()], [0] * 40))
        self.assertEqual(glued(FORTY, [(i, i) for i in range(40)] * 7), (FORTY, list(range(40))))

    def test_no_more_than_must(self):
        # Any map that takes both of each pair to one place goes by the glued shape.
        shape = [(), (), (), (1, 0), (2, 1), (2, 0), (1, 0)]
        for pair in ((0, 1), (0, 2), (3, 4), (3, 5), (3, 6), (5, 6)):
            new, spots = self.check(shape, [pair])
            for target in (LOOP, [(), (0, 0), (0, 0)], [(), (), (1, 0), (0, 0)]):
                for thing in itertools.product(range(len(target)), repeat=len(shape)):
                    if is_map(list(thing), shape, target) and thing[pair[0]] == thing[pair[1]]:
                        by = [thing[spots.index(spot)] for spot in range(len(new))]
                        self.assertEqual([by[spot] for spot in spots], list(thing))
                        self.assertIs(is_map(by, new, target), True)

    def test_no_pairs_of_the_shape(self):
        for thing in NO_PAIRS:
            for pairs in ([thing], [(1, 2), thing], [thing, (1, 2)], [(0, 0), thing, (4, 5)]):
                with self.assertRaises(NoGlue):
                    glued(EXAMPLE, pairs)
        for thing in NO_PAIRS + [(0, 0)]:
            with self.assertRaises(NoGlue):
                glued([], [thing])
        for thing in odd_things():
            for pair in ((thing, 1), (1, thing), (thing, thing)):
                with self.assertRaises(NoGlue):
                    glued(EXAMPLE, [pair])

    def test_what_is_refused_stays_and_can_be_asked_again(self):
        shape, pairs = list(EXAMPLE), [(1, 2), (0, 1)]
        for turn in range(2):
            with self.assertRaises(NoGlue):
                glued(shape, pairs)
            self.assertEqual((shape, pairs), (EXAMPLE, [(1, 2), (0, 1)]))
        pairs.pop()
        self.check(shape, pairs)

    def test_the_askers_own(self):
        for pairs in ([], [(1, 2)]):
            shape, handed = list(EXAMPLE), list(pairs)
            told = glued(shape, handed)
            wanted = copy.deepcopy(told)
            told[0].append(())
            told[1].clear()
            self.assertEqual((shape, handed, glued(shape, handed)), (EXAMPLE, pairs, wanted))
            told = glued(shape, handed)
            shape.clear()
            handed.clear()
            self.assertEqual(told, wanted)


if __name__ == "__main__":
    unittest.main()
