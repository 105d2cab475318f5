"""Point 20: maps, what they carry, and the tables of holes that they make."""

import copy
import itertools
import random
import unittest

from holebook.borders import border
from holebook.errors import NoLevel, NoMap
from holebook.holes import Book
from holebook.maps import carried, followed, hole_table, is_map
from tests.makers import (GREAT, all_shapes, chain_at, glued_by_hand, level, pairs_to_glue, side_by_side, some_maps,
                          wound_ball, wound_disc)
from tests.samples import EXAMPLE, LOOP, MIXED, POINT, TETRA, TIGHT, odd_things
from tests.test_borders import border_by_hand
from tests.test_holes import NO_LEVELS, added

# No map from EXAMPLE to itself is among these.
NO_MAPS = odd_things() + [0, 1, "", "012345", (), (0, 1, 2, 3, 4, 5), [], [0], [0, 1, 2, 3, 4], [0, 1, 2, 3, 4, 5, 5],
                          [0, 1, 2, 3, 4, 6], [0, 1, 2, 3, 4, -1], [-6, -5, -4, -3, -2, -1], [0, 1, 2, 3, 4, GREAT],
                          [False, 1, 2, 3, 4, 5], [0, True, 2, 3, 4, 5], [0, 1, 2, 3, 5, 5], [0, 2, 2, 3, 4, 5],
                          [0, 0, 2, 3, 4, 5], [1, 1, 2, 3, 4, 5], [0, 1, 2, 3, 4, 3], [0, 1, 2, 3, 4.0, 5],
                          [0, 1, 2, 3, 4, "5"], [[0, 1, 2, 3, 4, 5]], ["0", "1", "2", "3", "4", "5"],
                          {0: 0, 1: 1, 2: 2, 3: 3, 4: 4, 5: 5}]
BOTTLE = [(), (0, 0), (0, 0), (0, 0), (1, 3, 2), (3, 2, 1)]
PLANE = [(), (0, 0), (0, 0), (1, 2, 1), (2, 2, 2)]


def is_map_by_hand(thing, shape, other):
    for place, spot in enumerate(thing):
        if level(shape[place]) != level(other[spot]):
            return False
        if any(thing[face] != other[spot][i] for i, face in enumerate(shape[place])):
            return False
    return True


class TestIsMap(unittest.TestCase):
    def test_maps(self):
        for spots, shape, other in some_maps(201):
            kept = copy.deepcopy((spots, shape, other))
            self.assertIs(is_map(spots, shape, other), True)
            self.assertEqual((spots, shape, other), kept)

    def test_all_lists_between_small_shapes(self):
        small = ([], POINT, LOOP, [(), (), (0, 1)], TIGHT, [(), (0, 0), (0, 0), (1, 2, 1)], [(), (0, 0), (1, 1, 1)])
        found = 0
        for shape in small:
            for other in small:
                for spots in itertools.product(range(len(other)), repeat=len(shape)):
                    wanted = is_map_by_hand(spots, shape, other)
                    self.assertIs(is_map(list(spots), shape, other), wanted, (spots, shape, other))
                    found += wanted
        self.assertGreater(found, 30)

    def test_one_place_that_goes_elsewhere(self):
        for spots, shape, other in some_maps(202, 1, 15):
            for place in range(len(shape)):
                for spot in range(len(other)):
                    changed = spots[:place] + [spot] + spots[place + 1:]
                    self.assertIs(is_map(changed, shape, other), is_map_by_hand(changed, shape, other))

    def test_a_face_that_goes_elsewhere(self):
        self.assertIs(is_map([0, 1, 2, 3, 4, 5], EXAMPLE, EXAMPLE), True)
        self.assertIs(is_map([0, 2, 1, 3, 5, 4], EXAMPLE, EXAMPLE), True)
        self.assertIs(is_map([0, 2, 1, 3, 4, 5], EXAMPLE, EXAMPLE), False)
        self.assertIs(is_map([0, 1, 2, 3, 5, 4], EXAMPLE, EXAMPLE), False)
        self.assertIs(is_map([1, 0, 2], [(), (), (1, 0)], [(), (), (1, 0)]), False)
        self.assertIs(is_map([0, 0, 1], [(), (), (1, 0)], LOOP), True)

    def test_pieces_of_other_levels(self):
        self.assertIs(is_map([1], POINT, LOOP), False)
        self.assertIs(is_map([0, 0], LOOP, POINT), False)
        self.assertIs(is_map([0, 0], LOOP, LOOP), False)
        self.assertIs(is_map([0, 1, 1], TIGHT[:3], TIGHT), False)
        self.assertIs(is_map([0, 1, 3], TIGHT[:3], TIGHT), False)

    def test_of_no_pieces(self):
        for other in ([], POINT, TETRA):
            self.assertIs(is_map([], [], other), True)
            self.assertIs(is_map([0], [], other), False)
            self.assertIs(is_map((), [], other), False)
        self.assertIs(is_map([0], POINT, []), False)
        self.assertIs(is_map([], POINT, []), False)

    def test_any_thing(self):
        for thing in NO_MAPS:
            self.assertIs(is_map(thing, EXAMPLE, EXAMPLE), False)
        for thing in odd_things() + ["0", (), [], (0,), [0]]:
            for place in range(6):
                spots = list(range(6))
                spots[place] = thing
                self.assertIs(is_map(spots, EXAMPLE, EXAMPLE), False)
        thing = [0]
        thing.append(thing)
        self.assertIs(is_map(thing, LOOP, LOOP), False)

    def test_truths_in_the_places_they_could_be_taken_for(self):
        self.assertIs(is_map([0, 1], LOOP, LOOP), True)
        self.assertIs(is_map([False, 1], LOOP, LOOP), False)
        self.assertIs(is_map([0, True], LOOP, LOOP), False)
        self.assertIs(is_map([0, 1.0], LOOP, LOOP), False)


class TestCarried(unittest.TestCase):
    def test_images_that_meet(self):
        spots = [0, 0, 1]
        self.assertEqual(carried(spots, {0: 2, 1: 3}), {0: 5})
        self.assertEqual(carried(spots, {0: 2, 1: -2}), {})
        self.assertEqual(carried(spots, {2: 7}), {1: 7})
        self.assertEqual(carried(spots, {}), {})
        self.assertEqual(carried([0, 0, 0, 1], {0: 1, 1: -1, 2: GREAT}), {0: GREAT})
        self.assertEqual(carried([], {}), {})

    def test_what_comes_to_nothing_and_on(self):
        self.assertEqual(carried([0, 0, 0], {0: 1, 1: -1, 2: 4}), {0: 4})
        self.assertEqual(carried([0, 0, 0], {0: 10 ** 6000, 1: -10 ** 6000}), {})
        self.assertEqual(carried([3, 3, 5, 5], {0: 1, 1: 1, 2: -GREAT, 3: GREAT}), {3: 2})

    def test_by_chance(self):
        chance = random.Random(203)
        for spots, shape, other in some_maps(203):
            for k in range(4):
                chain = chain_at(chance, shape, k)
                kept = dict(chain), list(spots)
                told = carried(spots, chain)
                self.assertEqual((chain, spots), kept)
                self.assertIs(type(told), dict)
                self.assertEqual(told, added(*[(number, {spots[place]: 1}) for place, number in chain.items()]))
                self.assertEqual(border(other, told), carried(spots, border_by_hand(shape, chain)))

    def test_the_askers_own(self):
        spots, chain = [0, 1], {1: 3}
        told = carried(spots, chain)
        told[0] = 5
        self.assertEqual((spots, chain, carried(spots, chain)), ([0, 1], {1: 3}, {1: 3}))
        told = carried(spots, chain)
        spots[1] = 0
        chain.clear()
        self.assertEqual(told, {1: 3})


class TestFollowed(unittest.TestCase):
    def test_two_maps(self):
        self.assertEqual(followed([0, 0, 1], [4, 7]), [4, 4, 7])
        self.assertEqual(followed([], [1, 2]), [])
        self.assertEqual(followed([], []), [])

    def test_by_chance(self):
        chance = random.Random(204)
        for first, shape, middle in some_maps(204):
            other, second = glued_by_hand(middle, pairs_to_glue(chance, middle, 3))
            kept = list(first), list(second)
            told = followed(first, second)
            self.assertIs(type(told), list)
            self.assertEqual((first, second), kept)
            self.assertIs(is_map(told, shape, other), True)
            for k in range(4):
                chain = chain_at(chance, shape, k)
                self.assertEqual(carried(told, chain), carried(second, carried(first, chain)))

    def test_the_askers_own(self):
        first, second = [0, 1], [0, 1]
        told = followed(first, second)
        told.append(9)
        self.assertEqual((first, second, followed(first, second)), ([0, 1], [0, 1], [0, 1]))
        told = followed(first, second)
        first.clear()
        second.clear()
        self.assertEqual(told, [0, 1])


class TestHoleTable(unittest.TestCase):
    def check(self, spots, book, other):
        for k in range(4):
            told = hole_table(spots, book, other, k)
            self.assertIs(type(told), list)
            wanted = [other.told(k, added(*[(number, {spots[place]: 1}) for place, number in hole[1].items()]))[0]
                      for hole in book.holes(k)]
            self.assertEqual(told, wanted)
            self.assertTrue(all(type(row) is list for row in told))

    def test_onto_itself(self):
        shapes = all_shapes(205, 2) + [wound_disc(6), side_by_side(wound_disc(4), wound_ball(6)), BOTTLE, PLANE]
        for shape in shapes:
            book = Book(shape)
            for k in range(4):
                many = len(book.holes(k))
                told = hole_table(list(range(len(shape))), book, book, k)
                self.assertEqual(told, [[int(i == j) for j in range(many)] for i in range(many)])

    def test_by_chance(self):
        for spots, shape, other in some_maps(206, 2, 25):
            self.check(spots, Book(shape), Book(other))

    def test_behind_one_another(self):
        chance = random.Random(207)
        triples = some_maps(207, 2, 25)
        twisted = side_by_side(wound_disc(4), wound_disc(6), wound_ball(3))
        triples.append((list(range(len(twisted))), twisted, twisted))
        for first, shape, middle in triples:
            last, second = glued_by_hand(middle, pairs_to_glue(chance, middle, 2))
            one, two, three = Book(shape), Book(middle), Book(last)
            for k in range(4):
                told = hole_table([second[spot] for spot in first], one, three, k)
                by_two, rows = hole_table(first, one, two, k), hole_table(second, two, three, k)
                orders = [hole[0] for hole in three.holes(k)]
                for row, numbers in zip(told, by_two):
                    sums = [sum(n * line[j] for n, line in zip(numbers, rows)) for j in range(len(orders))]
                    self.assertEqual(row, [n % order if order else n for n, order in zip(sums, orders)])

    def test_a_loop_that_goes_to_a_twist(self):
        # The loop of the disc wound six times round has order 0 by itself and order 6 in the disc.
        loop, disc = Book(LOOP), Book(wound_disc(6))
        told = hole_table([0, 1], loop, disc, 1)
        self.assertEqual([len(told), len(told[0])], [1, 1])
        self.assertIn(told[0][0], (1, 5))
        self.assertEqual(abs(hole_table([0, 1], loop, disc, 0)[0][0]), 1)
        self.assertEqual(hole_table([0, 1], loop, disc, 2), [])
        self.assertEqual(hole_table([0, 1], loop, disc, 3), [])

    def test_between_twists(self):
        # Both loops of two discs become one: its order is then the greatest that divides both.
        two = side_by_side(wound_disc(4), wound_disc(6))
        many = len(wound_disc(4))
        other, spots = glued_by_hand(two, [(1, many + 1)])
        one, glued = Book(two), Book(other)
        self.assertEqual((one.twists(1), glued.twists(1)), ([2, 12], [2]))
        self.check(spots, one, glued)
        told = hole_table(spots, one, glued, 1)
        self.assertTrue(all(0 <= number < 2 for row in told for number in row))
        self.assertIn([1], told)

    def test_rounds_that_go_to_a_border(self):
        loop, solid = Book(LOOP), Book([(), (0, 0), (1, 1, 1)])
        self.assertEqual(hole_table([0, 1], loop, solid, 1), [[]])
        sphere, ball = Book(TETRA[:14]), Book(TETRA)
        self.assertEqual(hole_table(list(range(14)), sphere, ball, 2), [[]])
        self.assertEqual(len(sphere.holes(2)), 1)

    def test_of_no_pieces(self):
        for other in ([], LOOP, MIXED):
            for k in range(4):
                self.assertEqual(hole_table([], Book([]), Book(other), k), [])

    def test_no_maps(self):
        book = Book(EXAMPLE)
        for k in range(4):
            for thing in NO_MAPS:
                with self.assertRaises(NoMap):
                    hole_table(thing, book, book, k)
            with self.assertRaises(NoMap):
                hole_table([0, 0, 1], Book(LOOP), Book([(), (), (1, 0)]), k)

    def test_no_level_ahead_of_no_map(self):
        book = Book(EXAMPLE)
        for k in NO_LEVELS:
            for thing in (list(range(6)), None, (), [0], [0, 1, 2, 3, 4, 6]):
                with self.assertRaises(NoLevel):
                    hole_table(thing, book, book, k)

    def test_nothing_changes(self):
        book, other = Book(wound_disc(6)), Book(wound_disc(6))
        spots = list(range(len(wound_disc(6))))
        wanted = copy.deepcopy([hole_table(spots, book, other, k) for k in range(4)])
        kept = [copy.deepcopy(other.holes(k)) for k in range(4)]
        for k in range(4):
            told = hole_table(spots, book, other, k)
            for row in told:
                row.append(3)
            told.append([])
        self.assertEqual([hole_table(spots, book, other, k) for k in range(4)], wanted)
        self.assertEqual(spots, list(range(len(wound_disc(6)))))
        for thing, k in ((None, 1), ([0], 1), (spots, 4)):
            with self.assertRaises((NoMap, NoLevel)):
                hole_table(thing, book, other, k)
        told = hole_table(spots, book, other, 1)
        spots.clear()
        self.assertEqual(told, wanted[1])
        self.assertEqual([other.holes(k) for k in range(4)], kept)


if __name__ == "__main__":
    unittest.main()
