"""Point 23: cones, and chains that are coned."""

import random
import unittest

from holebook.borders import border
from holebook.cones import cone, coned
from holebook.errors import NoChain, NoGlue, NoShape
from holebook.holes import Book
from holebook.maps import is_map
from holebook.shapes import is_shape
from tests.makers import GREAT, KNOWN, all_shapes, chain_at, grown, level
from tests.samples import EXAMPLE, FORTY, LOOP, MIXED, POINT, TETRA, TIGHT
from tests.test_borders import NO_CHAINS, border_by_hand
from tests.test_holes import added


def flat_shapes(seed):
    """Shapes of at most nineteen pieces without tetrahedra."""
    chance = random.Random(seed)
    told = [shape for shape, counts, twists in KNOWN if len(shape) < 20 and all(len(piece) < 4 for piece in shape)]
    for mix in ((3, 6, 3, 0), (1, 4, 8, 0)) * 9:
        told.append(grown(chance, chance.randint(1, 19), mix))
    return told


class TestCone(unittest.TestCase):
    def test_small_ones(self):
        self.assertEqual(cone([]), [()])
        self.assertEqual(cone(POINT), [(), (), (0, 1)])
        self.assertEqual(cone([(), ()]), [(), (), (), (0, 2), (1, 2)])
        self.assertEqual(cone(LOOP), [(), (0, 0), (), (0, 2), (1, 3, 3)])
        self.assertEqual(cone([(), (), (1, 0)]), [(), (), (1, 0), (), (0, 3), (1, 3), (2, 5, 4)])
        self.assertEqual(cone(TIGHT[:3]), TIGHT[:3] + [(), (0, 3), (1, 4, 4), (2, 5, 5, 5)])
        self.assertEqual(cone(EXAMPLE), EXAMPLE + [(), (0, 6), (1, 7, 7), (2, 7, 7), (3, 7, 7),
                                                   (4, 8, 10, 9), (5, 9, 10, 8)])

    def test_each_piece_at_its_place(self):
        for shape in flat_shapes(231):
            kept, many = list(shape), len(shape)
            told = cone(shape)
            self.assertEqual(shape, kept)
            self.assertIs(type(told), list)
            self.assertEqual(len(told), 2 * many + 1)
            self.assertEqual(told[:many + 1], shape + [()])
            for place, piece in enumerate(shape):
                over = told[many + 1 + place]
                self.assertEqual(over[0], place)
                self.assertEqual(list(over[1:]), [many + 1 + face for face in piece] if piece else [many])
            self.assertIs(is_shape(told), True)
            self.assertIs(is_map(list(range(many)), shape, told), True)

    def test_it_has_no_holes(self):
        for shape in flat_shapes(232):
            book = Book(cone(shape))
            self.assertEqual([(book.count(k), book.twists(k)) for k in range(4)], [(1, []), (0, []), (0, []), (0, [])])

    def test_of_a_cone(self):
        self.assertEqual(len(cone(cone(cone([])))), 7)
        with self.assertRaises(NoGlue):
            cone(cone(cone(cone(POINT))))

    def test_tetrahedra(self):
        for shape in (TIGHT, TETRA, MIXED, TIGHT + [()]):
            kept = list(shape)
            for turn in range(2):
                with self.assertRaises(NoGlue):
                    cone(shape)
            self.assertEqual(shape, kept)

    def test_forty_and_more(self):
        self.assertEqual(len(cone([()] * 19)), 39)
        for shape in ([()] * 20, [()] * 40, [()] + [(0, 0)] * 19, EXAMPLE + [()] * 30):
            kept = list(shape)
            for turn in range(2):
                with self.assertRaises(NoShape):
                    cone(shape)
            self.assertEqual(shape, kept)

    def test_tetrahedra_ahead_of_the_size(self):
        late = [()] * 30 + [(0, 0), (30, 30, 30), (31, 31, 31, 31)]
        for shape in (FORTY, TIGHT + [()] * 16, TETRA + [()] * 25, late):
            with self.assertRaises(NoGlue):
                cone(shape)

    def test_the_askers_own(self):
        for shape in ([], POINT, EXAMPLE):
            handed = list(shape)
            told = cone(handed)
            wanted = list(told)
            told.append(None)
            self.assertEqual((handed, cone(handed)), (shape, wanted))
            told = cone(handed)
            handed.append(())
            self.assertEqual(told, wanted)


class TestConed(unittest.TestCase):
    def test_small_ones(self):
        self.assertEqual(coned(POINT, {0: 5}), {2: 5})
        self.assertEqual(coned(LOOP, {1: -GREAT}), {4: -GREAT})
        self.assertEqual(coned(EXAMPLE, {4: 1, 5: 10 ** 6000}), {11: 1, 12: 10 ** 6000})
        self.assertEqual(coned(MIXED, {0: 1, 10: -2}), {12: 1, 22: -2})

    def test_without_keys(self):
        for shape in all_shapes(233, 1):
            self.assertEqual(coned(shape, {}), {})

    def test_borders(self):
        chance = random.Random(234)
        for shape in flat_shapes(234):
            high = cone(shape)
            for k in range(3):
                chain = chain_at(chance, shape, k)
                kept = dict(chain)
                told = coned(shape, chain)
                self.assertEqual(chain, kept)
                self.assertIs(type(told), dict)
                self.assertTrue(all(level(high[place]) == k + 1 for place in told))
                if k == 0:
                    wanted = added((1, chain), (-sum(chain.values()), {len(shape): 1}))
                else:
                    wanted = added((1, chain), (-1, coned(shape, border_by_hand(shape, chain))))
                self.assertEqual(border(high, told), wanted)

    def test_shapes_of_any_size(self):
        chance = random.Random(235)
        for shape in all_shapes(235, 4):
            for k in range(3):
                chain = chain_at(chance, shape, k)
                wanted = {len(shape) + 1 + place: number for place, number in chain.items()}
                self.assertEqual(coned(shape, chain), wanted)
        self.assertEqual(coned(FORTY, {39: 2, 0: 1}), {80: 2, 41: 1})

    def test_no_chains(self):
        for thing in NO_CHAINS + [{3: 1}, {3: -GREAT}]:
            with self.assertRaises(NoChain):
                coned(TIGHT, thing)
        for thing in ({14: 1}, {10: 1, 14: 1}, {4: 1, 10: 1}, {0: 1, 4: 1}, {15: 1}):
            with self.assertRaises(NoChain):
                coned(TETRA, thing)
        for thing in ({0: 1}, None, []):
            with self.assertRaises(NoChain):
                coned([], thing)

    def test_what_is_refused_stays_and_can_be_asked_again(self):
        shape, chain = list(TIGHT), {0: 1, 1: 1}
        for turn in range(2):
            with self.assertRaises(NoChain):
                coned(shape, chain)
            self.assertEqual((shape, chain), (TIGHT, {0: 1, 1: 1}))
        chain.pop(0)
        self.assertEqual(coned(shape, chain), {6: 1})

    def test_the_askers_own(self):
        for chain in ({}, {1: 2}):
            shape, handed = list(LOOP), dict(chain)
            told = coned(shape, handed)
            wanted = dict(told)
            told[0] = 1
            self.assertEqual((shape, handed, coned(shape, handed)), (LOOP, chain, wanted))
            told = coned(shape, handed)
            handed.clear()
            shape.clear()
            self.assertEqual(told, wanted)


if __name__ == "__main__":
    unittest.main()
