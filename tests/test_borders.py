"""Points 10 and 11: borders, rounds, border tables and rows of chains."""

import random
import unittest

from holebook.borders import border, border_table, chain_of, is_round, row_of
from holebook.chains import plus, times
from holebook.errors import NoChain, NoLevel
from tests.makers import GREAT, all_shapes, chain_at, level, matrix_product
from tests.samples import EXAMPLE, LOOP, MIXED, POINT, SHAPES, TETRA, TIGHT, odd_things
from tests.test_chains import NO_DICTS, NO_NUMBERS, ODD_KEYS

# No chain of any level of TIGHT, which has one piece of each level.
NO_CHAINS = NO_DICTS + [{0: 1, 1: 1}, {1: 1, 2: 1}, {2: 1, 3: 1}, {0: 1, 3: -1}, {0: 1, 1: 1, 2: 1, 3: 1},
                        {4: 1}, {-1: 1}, {-4: 1}, {40: 1}, {GREAT: 1}, {0: 1, 4: 1}, {3: 1, -1: 1}]
NO_CHAINS = NO_CHAINS + [{key: 1} for key in ODD_KEYS] + [{2: 1, key: 1} for key in ODD_KEYS]
NO_CHAINS = NO_CHAINS + [{place: value} for place in range(4) for value in NO_NUMBERS]
NO_LEVELS = odd_things() + [-1, 5, 6, 40, GREAT, -GREAT, "", "0", "1", (), (1,), [], [1]]


def border_by_hand(shape, chain):
    counts = [0] * len(shape)
    for place, times_it in chain.items():
        for i, face in enumerate(shape[place]):
            counts[face] += (-1) ** i * times_it
    return {place: count for place, count in enumerate(counts) if count}


class TestBorder(unittest.TestCase):
    def test_of_a_piece_of_each_level(self):
        self.assertEqual(border(TETRA, {0: 1}), {})
        self.assertEqual(border(TETRA, {4: 1}), {1: 1, 0: -1})
        self.assertEqual(border(TETRA, {10: 1}), {7: 1, 5: -1, 4: 1})
        self.assertEqual(border(TETRA, {14: 1}), {13: 1, 12: -1, 11: 1, 10: -1})

    def test_faces_that_stand_twice_and_more(self):
        self.assertEqual(border(LOOP, {1: 1}), {})
        self.assertEqual(border(TIGHT, {2: 1}), {1: 1})
        self.assertEqual(border(TIGHT, {3: 1}), {})
        shape = [(), (0, 0), (0, 0), (1, 2, 1), (1, 1, 2), (2, 1, 1)]
        self.assertEqual(border(shape, {3: 1}), {1: 2, 2: -1})
        self.assertEqual(border(shape, {4: 1}), {2: 1})
        self.assertEqual(border(shape, {5: 1}), {2: 1})
        shape = [(), (0, 0), (1, 1, 1), (1, 1, 1), (2, 3, 2, 3), (2, 2, 3, 2), (2, 2, 3, 3)]
        self.assertEqual(border(shape, {4: 1}), {2: 2, 3: -2})
        self.assertEqual(border(shape, {5: 1}), {3: 1, 2: -1})
        self.assertEqual(border(shape, {6: 1}), {})

    def test_of_chains(self):
        self.assertEqual(border(TETRA, {4: 2, 7: 2}), {2: 2, 0: -2})
        self.assertEqual(border(TETRA, {4: 1, 7: 1, 5: -1}), {})
        self.assertEqual(border(TETRA, {10: 1, 11: -1}), {7: 1, 5: -1, 8: -1, 6: 1})
        self.assertEqual(border(EXAMPLE, {4: 1, 5: 1}), {1: 2, 2: 2, 3: -2})
        self.assertEqual(border(EXAMPLE, {4: 1, 5: -1}), {})
        self.assertEqual(border(EXAMPLE, {4: GREAT}), {1: GREAT, 3: -GREAT, 2: GREAT})

    def test_of_points_and_of_nothing(self):
        self.assertEqual(border(TETRA, {0: 5, 3: -GREAT}), {})
        for shape in SHAPES:
            self.assertEqual(border(shape, {}), {})

    def test_by_chance(self):
        chance = random.Random(101)
        for shape in all_shapes(101):
            for k in range(4):
                chain, other = chain_at(chance, shape, k), chain_at(chance, shape, k)
                edge = border(shape, chain)
                self.assertEqual(edge, border_by_hand(shape, chain))
                self.assertEqual(border(shape, edge), {})
                self.assertEqual(border(shape, plus(chain, times(-GREAT, other))),
                                 plus(edge, times(-GREAT, border(shape, other))))

    def test_no_chains(self):
        for thing in NO_CHAINS:
            with self.assertRaises(NoChain):
                border(TIGHT, thing)
        for thing in NO_DICTS + [{0: 1}, {None: 1}]:
            with self.assertRaises(NoChain):
                border([], thing)

    def test_what_is_refused_stays_and_can_be_asked_again(self):
        shape, chain = list(TIGHT), {2: 1, 1: 1}
        for turn in range(2):
            with self.assertRaises(NoChain):
                border(shape, chain)
            self.assertEqual((shape, chain), (TIGHT, {2: 1, 1: 1}))
        chain.pop(1)
        self.assertEqual(border(shape, chain), {1: 1})


class TestIsRound(unittest.TestCase):
    def test_rounds_and_others(self):
        self.assertIs(is_round(LOOP, {1: 1}), True)
        self.assertIs(is_round(LOOP, {1: -GREAT}), True)
        self.assertIs(is_round(TETRA, {4: 1}), False)
        self.assertIs(is_round(TETRA, {4: 1, 7: 1, 5: -1}), True)
        self.assertIs(is_round(TETRA, {4: 1, 7: 1, 5: 1}), False)
        self.assertIs(is_round(EXAMPLE, {4: 3, 5: -3}), True)
        self.assertIs(is_round(EXAMPLE, {4: 3, 5: -2}), False)
        self.assertIs(is_round(TIGHT, {3: 1}), True)

    def test_points_and_nothing(self):
        for shape in SHAPES:
            self.assertIs(is_round(shape, {}), True)
        self.assertIs(is_round(TETRA, {0: 1, 2: 7}), True)

    def test_borders_are_rounds(self):
        chance = random.Random(102)
        for shape in all_shapes(102, 2):
            for k in range(4):
                chain = chain_at(chance, shape, k)
                self.assertIs(is_round(shape, border(shape, chain)), True)
                self.assertIs(is_round(shape, chain), border_by_hand(shape, chain) == {})


class TestBorderTable(unittest.TestCase):
    def test_the_tetrahedron(self):
        self.assertEqual(border_table(TETRA, 0), [])
        self.assertEqual(border_table(TETRA, 1), [[-1, -1, -1, 0, 0, 0], [1, 0, 0, -1, -1, 0],
                                                  [0, 1, 0, 1, 0, -1], [0, 0, 1, 0, 1, 1]])
        self.assertEqual(border_table(TETRA, 3), [[-1], [1], [-1], [1]])
        self.assertEqual(border_table(TETRA, 4), [[]])

    def test_small_shapes(self):
        self.assertEqual([border_table([], k) for k in range(5)], [[], [], [], [], []])
        self.assertEqual([border_table(POINT, k) for k in range(5)], [[], [[]], [], [], []])
        self.assertEqual([border_table(LOOP, k) for k in range(5)], [[], [[0]], [[]], [], []])
        self.assertEqual([border_table(TIGHT, k) for k in range(5)], [[], [[0]], [[1]], [[0]], [[]]])
        self.assertEqual([border_table(EXAMPLE, k) for k in range(5)],
                         [[], [[0, 0, 0]], [[1, 1], [1, 1], [-1, -1]], [[], []], []])

    def test_by_rising_places(self):
        self.assertEqual(border_table(MIXED, 1), [[0, 1, -1, 0], [0, -1, 1, 0], [0, 0, 0, 0], [0, 0, 0, 0]])
        self.assertEqual(border_table(MIXED, 2), [[1, 1], [0, 0], [0, 0], [0, 0]])

    def test_each_number_is_of_a_border(self):
        for shape in all_shapes(111):
            at = [[place for place, piece in enumerate(shape) if level(piece) == k] for k in range(-1, 5)]
            at[0] = []
            for k in range(5):
                wanted = [[border_by_hand(shape, {high: 1}).get(low, 0) for high in at[k + 1]] for low in at[k]]
                self.assertEqual(border_table(shape, k), wanted)

    def test_products_of_neighbours_are_nothing(self):
        for shape in all_shapes(112):
            counts = [sum(level(piece) == k for piece in shape) for k in range(5)]
            for k in range(4):
                told = matrix_product(border_table(shape, k), border_table(shape, k + 1), counts[k + 1])
                self.assertEqual(told, [[0] * counts[k + 1]] * (counts[k - 1] if k else 0))

    def test_no_levels(self):
        for thing in NO_LEVELS:
            for shape in ([], TETRA):
                with self.assertRaises(NoLevel):
                    border_table(shape, thing)


class TestRows(unittest.TestCase):
    def test_row_of(self):
        self.assertEqual(row_of(TETRA, 1, {4: 1, 9: -2}), [1, 0, 0, 0, 0, -2])
        self.assertEqual(row_of(TETRA, 0, {3: GREAT}), [0, 0, 0, GREAT])
        self.assertEqual(row_of(MIXED, 0, {10: 1, 2: 5}), [0, 5, 0, 1])
        self.assertEqual([row_of(TETRA, k, {}) for k in range(5)], [[0] * 4, [0] * 6, [0] * 4, [0], []])
        self.assertEqual([row_of([], k, {}) for k in range(5)], [[], [], [], [], []])

    def test_chain_of(self):
        self.assertEqual(chain_of(TETRA, 1, [1, 0, 0, 0, 0, -2]), {4: 1, 9: -2})
        self.assertEqual(chain_of(MIXED, 0, [0, 5, 0, 1]), {2: 5, 10: 1})
        self.assertEqual([chain_of(TETRA, k, [0] * n) for k, n in enumerate((4, 6, 4, 1, 0))], [{}] * 5)
        self.assertEqual([chain_of([], k, []) for k in range(5)], [{}] * 5)

    def test_there_and_back(self):
        chance = random.Random(113)
        for shape in all_shapes(113):
            for k in range(5):
                chain = chain_at(chance, shape, k)
                row = row_of(shape, k, chain)
                self.assertEqual(len(row), sum(level(piece) == k for piece in shape))
                self.assertEqual(chain_of(shape, k, row), chain)
                self.assertEqual(row_of(shape, k, chain_of(shape, k, row)), row)

    def test_the_table_tells_borders(self):
        chance = random.Random(114)
        for shape in all_shapes(114):
            for k in range(1, 5):
                chain = chain_at(chance, shape, k)
                row = row_of(shape, k, chain)
                told = [sum(a * b for a, b in zip(line, row)) for line in border_table(shape, k)]
                self.assertEqual(told, row_of(shape, k - 1, border(shape, chain)))

    def test_no_chain_of_that_very_level(self):
        for k in range(5):
            for place, piece in enumerate(TETRA):
                if level(piece) != k:
                    with self.assertRaises(NoChain):
                        row_of(TETRA, k, {place: 1})
            for thing in NO_CHAINS:
                with self.assertRaises(NoChain):
                    row_of(TIGHT, k, thing)

    def test_what_is_refused_can_be_asked_again(self):
        chain = {4: 1}
        for turn in range(2):
            with self.assertRaises(NoChain):
                row_of(TETRA, 0, chain)
            self.assertEqual(row_of(TETRA, 1, chain), [1, 0, 0, 0, 0, 0])


class TestNothingChanges(unittest.TestCase):
    def test_what_is_handed_in_stays(self):
        shape, chain, row = list(TETRA), {4: 1, 9: 3}, [1, 0, 0, 2, 0, 0]
        for turn in range(2):
            self.assertEqual(border(shape, chain), {1: 1, 0: -1, 3: 3, 2: -3})
            is_round(shape, chain)
            row_of(shape, 1, chain)
            chain_of(shape, 1, row)
            for k in range(5):
                border_table(shape, k)
            self.assertEqual((shape, chain, row), (TETRA, {4: 1, 9: 3}, [1, 0, 0, 2, 0, 0]))

    def test_told_dicts_and_lists_are_the_askers_own(self):
        shape = list(TETRA)
        for k in range(5):
            wanted = border_table(TETRA, k)
            told = border_table(shape, k)
            for line in told:
                line.append(7)
            told.append([])
            self.assertEqual(border_table(shape, k), wanted)
        for chain in ({}, {0: 1}, {4: 1}, {14: 2}):
            wanted = border(TETRA, chain)
            told = border(shape, chain)
            told[99] = 1
            self.assertEqual(border(shape, chain), wanted)
        told = row_of(shape, 1, {4: 1})
        told[0] = 50
        self.assertEqual(row_of(shape, 1, {4: 1}), [1, 0, 0, 0, 0, 0])
        told = chain_of(shape, 0, [0, 0, 0, 0])
        told[1] = 1
        self.assertEqual(chain_of(shape, 0, [0, 0, 0, 0]), {})

    def test_rows_of_a_told_table_are_unlike_lists(self):
        for shape in SHAPES:
            for k in range(5):
                told = border_table(shape, k)
                self.assertEqual(len({id(line) for line in told}), len(told))

    def test_what_is_done_to_what_was_handed_in_changes_nothing_told(self):
        shape, chain, row = list(TETRA), {4: 1}, [1, 0, 0, 2, 0, 0]
        told = (border(shape, chain), border_table(shape, 4), row_of(shape, 1, chain), chain_of(shape, 1, row))
        shape.clear()
        chain.clear()
        row.clear()
        self.assertEqual(told, ({1: 1, 0: -1}, [[]], [1, 0, 0, 0, 0, 0], {4: 1, 7: 2}))


if __name__ == "__main__":
    unittest.main()
