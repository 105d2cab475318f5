"""Points 26 to 28: bent pairs, the core, and rounds that are pushed into it."""

import copy
import random
import unittest

from holebook.collapsing import away, bent, core, pushed
from holebook.cones import cone
from holebook.errors import NoChain, NoPair, NoRound
from holebook.holes import Book
from holebook.maps import carried, is_map
from holebook.shapes import is_shape
from tests.makers import GREAT, KNOWN, all_shapes, chain_at, grown_shapes, level, side_by_side, wound_disc
from tests.samples import EXAMPLE, FORTY, LOOP, MIXED, POINT, SHAPES, TETRA, TIGHT, odd_things
from tests.test_borders import NO_CHAINS, border_by_hand
from tests.test_cones import flat_shapes
from tests.test_holes import added

SIDE = [(), (), (1, 0)]
# A path of three sides, and a triangle that hangs on a loop.
PATH = [(), (), (), (), (1, 0), (2, 1), (3, 2)]
HANGING = [(), (0, 0), (), (2, 0), (2, 0), (4, 4, 1)]


def bent_by_hand(shape):
    faces = [face for piece in shape for face in piece]
    return [(f, g) for f in range(len(shape)) for g in range(len(shape))
            if shape[g].count(f) == 1 and faces.count(f) == 1 and g not in faces]


def left_by_hand(shape, pair):
    kept = [place for place in range(len(shape)) if place not in pair]
    return [tuple(kept.index(face) for face in shape[place]) for place in kept], kept


def core_by_hand(shape):
    """The core, all by the old places: what is left there, and the pairs taken away."""
    left, pairs = list(range(len(shape))), []
    while True:
        faces = [face for place in left for face in shape[place]]
        found = [(f, g) for f in left for g in left
                 if shape[g].count(f) == 1 and faces.count(f) == 1 and g not in faces]
        if not found:
            return [tuple(left.index(face) for face in shape[place]) for place in left], left, pairs
        pairs.append(min(found))
        left = [place for place in left if place not in pairs[-1]]


def some_shapes(seed):
    known = [shape for shape, counts, twists in KNOWN]
    return known + all_shapes(seed, 4) + [cone(shape) for shape in flat_shapes(seed)]


class TestBent(unittest.TestCase):
    def test_small_shapes(self):
        self.assertEqual(bent([]), [])
        self.assertEqual(bent(POINT), [])
        self.assertEqual(bent(SIDE), [(0, 2), (1, 2)])
        self.assertEqual(bent(PATH), [(0, 4), (3, 6)])
        self.assertEqual(bent(TETRA), [(10, 14), (11, 14), (12, 14), (13, 14)])
        self.assertEqual(bent([(), (), (0, 1), (), (1, 3)]), [(0, 2), (3, 4)])

    def test_faces_that_stand_twice_in_a_piece(self):
        self.assertEqual(bent(LOOP), [])
        self.assertEqual(bent(TIGHT), [])
        self.assertEqual(bent([(), (0, 0), (1, 1, 1)]), [])
        self.assertEqual(bent([(), (0, 0), (0, 0), (1, 2, 1)]), [(2, 3)])
        self.assertEqual(bent([(), (0, 0), (0, 0), (1, 1, 2)]), [(2, 3)])
        self.assertEqual(bent(HANGING), [(1, 5)])

    def test_a_face_of_two_pieces(self):
        self.assertEqual(bent(EXAMPLE), [])
        self.assertEqual(bent(TETRA[:14]), [])
        self.assertEqual(bent(TETRA + TETRA[14:]), [])

    def test_a_second_one_that_is_a_face(self):
        # The point 0 is a face of the side alone, but the side is a face of the triangle.
        self.assertEqual(bent([(), (), (1, 0), (1, 1), (3, 2, 2)]), [(3, 4)])

    def test_by_chance(self):
        for shape in some_shapes(261):
            kept = list(shape)
            told = bent(shape)
            self.assertEqual(shape, kept)
            self.assertEqual(told, sorted(bent_by_hand(shape)))
            self.assertEqual([type(pair) for pair in told], [tuple] * len(told))
            self.assertIs(type(told), list)

    def test_the_askers_own(self):
        shape = list(SIDE)
        told = bent(shape)
        told.append((0, 1))
        self.assertEqual((shape, bent(shape)), (SIDE, [(0, 2), (1, 2)]))
        told = bent(shape)
        shape.clear()
        self.assertEqual(told, [(0, 2), (1, 2)])


class TestAway(unittest.TestCase):
    def test_small_shapes(self):
        self.assertEqual(away(SIDE, (0, 2)), ([()], [1]))
        self.assertEqual(away(SIDE, (1, 2)), ([()], [0]))
        self.assertEqual(away(PATH, (0, 4)), ([(), (), (), (1, 0), (2, 1)], [1, 2, 3, 5, 6]))
        self.assertEqual(away(HANGING, (1, 5)), ([(), (), (1, 0), (1, 0)], [0, 2, 3, 4]))

    def test_each_bent_pair(self):
        for shape in some_shapes(262):
            for pair in bent_by_hand(shape):
                kept = list(shape)
                told = away(shape, pair)
                self.assertEqual(shape, kept)
                self.assertEqual([type(thing) for thing in (told, told[0], told[1])], [tuple, list, list])
                self.assertEqual(told, left_by_hand(shape, pair))
                self.assertIs(is_shape(told[0]), True)
                self.assertIs(is_map(told[1], told[0], shape), True)

    def test_no_pairs(self):
        things = odd_things() + [0, 2, "", "02", (), (0,), (0, 2, 2), (0, 2, 1), [0, 2], [1, 2], [(0, 2)], ((0, 2),),
                                 (2, 0), (2, 1), (0, 1), (0, 0), (2, 2), (-3, 2), (0, -1), (0, 3), (3, 2), (0, GREAT),
                                 (False, 2), (True, 2), (0.0, 2), (0, 2.0), ("0", 2), (None, 2), (0, None), {0: 2}]
        for thing in things:
            for turn in range(2):
                with self.assertRaises(NoPair):
                    away(SIDE, thing)
        for thing in odd_things():
            for pair in ((thing, 2), (0, thing), (thing, thing)):
                with self.assertRaises(NoPair):
                    away(SIDE, pair)
        for thing in [(0, 2), (0, 0), None]:
            for shape in ([], POINT, LOOP, EXAMPLE):
                with self.assertRaises(NoPair):
                    away(shape, thing)

    def test_all_pairs_of_places(self):
        for shape in (SIDE, PATH, TETRA, HANGING, EXAMPLE, MIXED):
            found = bent_by_hand(shape)
            for f in range(-1, len(shape) + 1):
                for g in range(-1, len(shape) + 1):
                    if (f, g) in found:
                        away(shape, (f, g))
                    else:
                        with self.assertRaises(NoPair):
                            away(shape, (f, g))

    def test_truths(self):
        shape = [(), (), (1, 0)]
        self.assertEqual(away(shape, (1, 2)), ([()], [0]))
        with self.assertRaises(NoPair):
            away(shape, (True, 2))

    def test_the_askers_own(self):
        shape = list(SIDE)
        told = away(shape, (0, 2))
        told[0].append(())
        told[1].clear()
        self.assertEqual((shape, away(shape, (0, 2))), (SIDE, ([()], [1])))
        told = away(shape, (0, 2))
        shape.clear()
        self.assertEqual(told, ([()], [1]))


class TestCore(unittest.TestCase):
    def test_small_shapes(self):
        self.assertEqual(core([]), ([], [], []))
        self.assertEqual(core(POINT), (POINT, [0], []))
        self.assertEqual(core(SIDE), ([()], [1], [(0, 2)]))
        self.assertEqual(core(PATH), ([()], [3], [(0, 4), (1, 5), (2, 6)]))
        self.assertEqual(core(HANGING), ([(), (), (1, 0), (1, 0)], [0, 2, 3, 4], [(1, 5)]))

    def test_the_least_first_at_each_turn(self):
        # The point 1 is free only once the point 2 is gone.
        shape = [(), (), (), (1, 0), (0, 0), (2, 1)]
        self.assertEqual(core(shape), ([(), (0, 0)], [0, 4], [(2, 5), (1, 3)]))

    def test_the_tetrahedron(self):
        told = core(TETRA)
        self.assertEqual((told[0], told[1][:1], told[2][0]), ([()], [3], (10, 14)))
        self.assertEqual(len(told[2]), 7)

    def test_shapes_without_bent_pairs(self):
        for shape in (EXAMPLE, LOOP, TIGHT, TETRA[:14], [()] * 40, [(), (0, 0), (1, 1, 1)]):
            self.assertEqual(core(shape), (shape, list(range(len(shape))), []))

    def test_cones(self):
        for shape in flat_shapes(263):
            told = core(cone(shape))
            self.assertEqual(told, core_by_hand(cone(shape)))
            if all(len(piece) < 3 for piece in shape):
                self.assertEqual(told[0], [()])

    def test_by_chance(self):
        for shape in some_shapes(264):
            handed = list(shape)
            told = core(shape)
            self.assertEqual(shape, handed)
            self.assertEqual([type(thing) for thing in (told,) + told], [tuple, list, list, list])
            self.assertEqual(told, core_by_hand(shape))
            left, kept, pairs = told
            self.assertIs(is_shape(left), True)
            self.assertIs(is_map(kept, left, shape), True)
            self.assertEqual(bent_by_hand(left), [])
            self.assertEqual(sorted(kept + [place for pair in pairs for place in pair]), list(range(len(shape))))

    def test_no_hole_is_lost(self):
        for shape in some_shapes(265):
            one, other = Book(shape), Book(core(shape)[0])
            for k in range(4):
                self.assertEqual((one.count(k), one.twists(k)), (other.count(k), other.twists(k)))

    def test_the_askers_own(self):
        for shape in ([], POINT, EXAMPLE, PATH):
            handed = list(shape)
            told = core(handed)
            wanted = copy.deepcopy(told)
            for part in told:
                part.append(None)
            self.assertEqual((handed, core(handed)), (shape, wanted))
            told = core(handed)
            handed.append(())
            self.assertEqual(told, wanted)


class TestPushed(unittest.TestCase):
    def check(self, shape, chain):
        handed = list(shape), dict(chain)
        told = pushed(shape, chain)
        self.assertEqual((shape, chain), handed)
        self.assertEqual([type(thing) for thing in (told,) + told], [tuple, dict, dict])
        left, kept, pairs = core_by_hand(shape)
        pushed_chain, filling = told
        k = level(shape[next(iter(chain))]) if chain else 0
        for place, number in pushed_chain.items():
            self.assertEqual((type(place), type(number)), (int, int))
            self.assertTrue(number != 0 and 0 <= place < len(left) and level(left[place]) == k)
        seconds = [g for f, g in pairs]
        for place, number in filling.items():
            self.assertEqual((type(place), type(number)), (int, int))
            self.assertTrue(number != 0 and place in seconds and level(shape[place]) == k + 1)
        back = {kept[place]: number for place, number in pushed_chain.items()}
        self.assertEqual(added((1, back), (1, border_by_hand(shape, filling))), chain)
        self.assertEqual(border_by_hand(left, pushed_chain), {})
        return told

    def test_points(self):
        self.assertEqual(pushed(SIDE, {0: 5}), ({0: 5}, {2: -5}))
        self.assertEqual(pushed(SIDE, {1: 5}), ({0: 5}, {}))
        self.assertEqual(pushed(SIDE, {0: 5, 1: -5}), ({}, {2: -5}))
        self.assertEqual(pushed(PATH, {0: 1}), ({0: 1}, {4: -1, 5: -1, 6: -1}))
        self.assertEqual(pushed(PATH, {0: GREAT, 2: -GREAT}), ({}, {4: -GREAT, 5: -GREAT}))
        self.assertEqual(pushed([(), (), (0, 1)], {0: 5}), ({0: 5}, {2: 5}))

    def test_faces_of_either_sign(self):
        # The loop 1 goes twice round by the loop 2, or not at all, as the signs tell.
        shape = [(), (0, 0), (0, 0), (2, 1, 2)]
        self.assertEqual(pushed(shape, {1: 3}), ({1: 6}, {3: -3}))
        shape = [(), (0, 0), (0, 0), (1, 2, 2)]
        self.assertEqual(pushed(shape, {1: 3}), ({}, {3: 3}))
        shape = [(), (0, 0), (0, 0), (2, 2, 1)]
        self.assertEqual(pushed(shape, {1: 3, 2: 1}), ({1: 1}, {3: 3}))

    def test_nothing(self):
        for shape in SHAPES:
            self.assertEqual(pushed(shape, {}), ({}, {}))

    def test_without_bent_pairs(self):
        self.assertEqual(pushed(LOOP, {1: -7}), ({1: -7}, {}))
        self.assertEqual(pushed(EXAMPLE, {4: 2, 5: -2}), ({4: 2, 5: -2}, {}))
        self.assertEqual(pushed(TIGHT, {3: 10 ** 6000}), ({3: 10 ** 6000}, {}))

    def test_rounds_of_each_level(self):
        chance = random.Random(281)
        seen = {}
        for shape in some_shapes(281):
            book = Book(shape)
            for k in range(4):
                for most in (1, 9, GREAT):
                    edge = border_by_hand(shape, chain_at(chance, shape, k + 1))
                    parts = [(chance.randint(-most, most), hole[1]) for hole in book.holes(k)]
                    if self.check(shape, added((1, edge), *parts))[1]:
                        seen[k] = True
        self.assertEqual(sorted(seen), [0, 1, 2])

    def test_borders(self):
        chance = random.Random(282)
        for shape in some_shapes(282):
            for k in range(4):
                self.check(shape, border_by_hand(shape, chain_at(chance, shape, k)))
        for shape in flat_shapes(283):
            high = cone(shape)
            for place, piece in enumerate(high):
                self.check(high, border_by_hand(high, {place: 1}))

    def test_sums_are_pushed_to_sums(self):
        chance = random.Random(284)
        for shape in grown_shapes(284, 3):
            for k in range(1, 4):
                one = border_by_hand(shape, chain_at(chance, shape, k))
                other = border_by_hand(shape, chain_at(chance, shape, k))
                told = pushed(shape, added((3, one), (-GREAT, other)))
                mine, theirs = pushed(shape, one), pushed(shape, other)
                self.assertEqual(told[0], added((3, mine[0]), (-GREAT, theirs[0])))
                self.assertEqual(told[1], added((3, mine[1]), (-GREAT, theirs[1])))

    def test_pushed_again(self):
        for shape in (PATH, cone(EXAMPLE), side_by_side(TETRA, wound_disc(6))):
            for hole in Book(shape).holes(0) + Book(shape).holes(1):
                chain = pushed(shape, hole[1])[0]
                self.assertEqual(pushed(core(shape)[0], chain), (chain, {}))
                self.assertEqual(pushed(shape, carried(core(shape)[1], chain)), (chain, {}))

    def test_no_chains(self):
        for thing in NO_CHAINS:
            with self.assertRaises(NoChain):
                pushed(TIGHT, thing)
        for thing in ({0: 1, 4: 1}, {4: 1, 10: 1}, {15: 1}, {4: 0}, {4: True}, {True: 1}, {-1: 1}):
            with self.assertRaises(NoChain):
                pushed(TETRA, thing)
        for thing in ({0: 1}, None, []):
            with self.assertRaises(NoChain):
                pushed([], thing)

    def test_no_rounds(self):
        for chain in ({4: 1}, {4: GREAT, 5: 1}, {10: 1}, {10: 1, 11: -1}, {14: -3}):
            for turn in range(2):
                handed = dict(chain)
                with self.assertRaises(NoRound) as caught:
                    pushed(TETRA, handed)
                self.assertEqual(caught.exception.edge, border_by_hand(TETRA, chain))
                self.assertEqual(handed, chain)
                caught.exception.edge.clear()
        with self.assertRaises(NoRound):
            pushed(FORTY, {14: 1})

    def test_no_rounds_by_chance(self):
        chance = random.Random(285)
        for shape in grown_shapes(285, 3):
            for k in range(4):
                chain = chain_at(chance, shape, k)
                edge = border_by_hand(shape, chain)
                if edge:
                    with self.assertRaises(NoRound) as caught:
                        pushed(shape, chain)
                    self.assertEqual(caught.exception.edge, edge)
                else:
                    self.check(shape, chain)

    def test_the_askers_own(self):
        for shape, chain in ((SIDE, {0: 5}), (SIDE, {}), (LOOP, {1: 1}), (LOOP, {})):
            handed, kept = list(shape), dict(chain)
            told = pushed(handed, kept)
            wanted = copy.deepcopy(told)
            for part in told:
                part[7] = 7
            self.assertEqual((handed, kept, pushed(handed, kept)), (shape, chain, wanted))
            told = pushed(handed, kept)
            handed.clear()
            kept.clear()
            self.assertEqual(told, wanted)


if __name__ == "__main__":
    unittest.main()
