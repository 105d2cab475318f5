"""Point 14: the diagonal of a table and its papers."""

import copy
import itertools
import math
import random
import unittest

from holebook.borders import border_table
from holebook.diagonal import diagonal, rank
from holebook.errors import NoTable
from tests.makers import (GREAT, all_shapes, diagonal_numbers, diagonal_table, level, matrix_product, one_table,
                          stirred, table, tables)
from tests.samples import odd_things

NO_TABLES = odd_things() + [0, 1, "", "1", (), ((1,),), ([1],), [1], [(1,)], [[True]], [[False]], [[None]], [["1"]],
                            [[1.0]], [[]], [[1, 2]], [[1], [2, 3]], [[1], []], [[1]] * 41, [None], [[1], None], [[[1]]]]


def determinant(rows):
    if not rows:
        return 1
    minors = [[row[:j] + row[j + 1:] for row in rows[1:]] for j in range(len(rows))]
    return sum((-1) ** j * rows[0][j] * determinant(minors[j]) for j in range(len(rows)))


def numbers_by_minors(rows, width):
    """The product of the first k numbers is the greatest divisor of all minors of k rows and columns."""
    told, last = [], 1
    for k in range(1, min(len(rows), width) + 1):
        divisor = 0
        for across in itertools.combinations(range(width), k):
            for down in itertools.combinations(rows, k):
                divisor = math.gcd(divisor, determinant([[row[j] for j in across] for row in down]))
        if divisor == 0:
            break
        told.append(divisor // last)
        last = divisor
    return told


class DiagonalCase(unittest.TestCase):
    def check(self, rows, width):
        handed = copy.deepcopy(rows)
        told = diagonal(handed, width)
        self.assertEqual(handed, rows)
        self.assertIs(type(told), tuple)
        self.assertEqual([type(part) for part in told], [list] * 5)
        numbers, left, left_back, right, right_back = told
        height = len(rows)
        self.assertEqual([type(number) for number in numbers], [int] * len(numbers))
        self.assertTrue(all(number > 0 for number in numbers))
        for one, other in zip(numbers, numbers[1:]):
            self.assertEqual(other % one, 0)
        for paper, size in ((left, height), (left_back, height), (right, width), (right_back, width)):
            self.assertEqual((len(paper), [len(row) for row in paper]), (size, [size] * size))
        self.assertEqual(matrix_product(matrix_product(left, rows, width), right, width),
                         diagonal_table(numbers, height, width))
        for one, other, size in ((left, left_back, height), (right, right_back, width)):
            self.assertEqual(matrix_product(one, other, size), one_table(size))
            self.assertEqual(matrix_product(other, one, size), one_table(size))
        return numbers


class TestDiagonal(DiagonalCase):
    def test_small_ones(self):
        for rows, width, numbers in (
                ([[2]], 1, [2]), ([[-2]], 1, [2]), ([[0]], 1, []), ([[1, 2], [3, 4]], 2, [1, 2]),
                ([[2, 0], [0, 3]], 2, [1, 6]), ([[4, 0], [0, 6]], 2, [2, 12]), ([[6, 0], [0, 4]], 2, [2, 12]),
                ([[2, 4], [4, 8]], 2, [2]), ([[0, 0], [0, 5]], 2, [5]), ([[0, 5], [0, 0]], 2, [5]),
                ([[0, -3], [7, 0]], 2, [1, 21]), ([[6, 10, 15]], 3, [1]), ([[6], [10], [14]], 1, [2]),
                ([[2, 4, 4], [-6, 6, 12], [10, -4, -16]], 3, [2, 6, 12]),
                ([[8, 0, 0], [0, 4, 0], [0, 0, 2]], 3, [2, 4, 8]),
                ([[0, 0, 0], [0, 12, 0], [0, 0, 0], [0, 0, 18]], 3, [6, 36])):
            self.assertEqual(self.check(rows, width), numbers)

    def test_without_rows_or_columns(self):
        self.assertEqual(diagonal([], 0), ([], [], [], [], []))
        for size in (1, 3, 40):
            self.assertEqual(self.check([], size), [])
            self.assertEqual(self.check([[] for i in range(size)], 0), [])

    def test_noughts_alone(self):
        for height in (1, 2, 5, 40):
            for width in (1, 2, 5, 40):
                self.assertEqual(self.check([[0] * width for i in range(height)], width), [])

    def test_many_sizes(self):
        for rows, width in tables(141):
            self.check(rows, width)

    def test_the_numbers_are_forced(self):
        chance = random.Random(142)
        for height in range(1, 5):
            for width in range(1, 5):
                for most in (1, 4, 60, GREAT):
                    rows = table(chance, height, width, most)
                    self.assertEqual(self.check(rows, width), numbers_by_minors(rows, width))
                    by = chance.choice((-6, 2, GREAT))
                    scaled = [[by * number for number in row] for row in rows]
                    self.assertEqual(self.check(scaled, width), [abs(by) * n for n in numbers_by_minors(rows, width)])

    def test_stirred_tables(self):
        chance = random.Random(143)
        for height, width in ((1, 1), (2, 3), (4, 4), (5, 8), (9, 6), (12, 12), (20, 25), (40, 40)):
            many = chance.randint(0, min(height, width))
            steps = [chance.choice((1, 1, 1, 2, 2, 3, 5)) for i in range(many)]
            wanted = [math.prod(steps[:i + 1]) for i in range(many)]
            rows = stirred(chance, diagonal_table(wanted, height, width), width, 2 * max(height, width))
            self.assertEqual(self.check(rows, width), wanted)

    def test_diagonals_out_of_order(self):
        chance = random.Random(144)
        for many in (2, 3, 5, 9, 17, 40):
            numbers = [chance.choice((0, 1, -2, 3, 4, -6, 8, 9, 12, 30, -64)) for i in range(many)]
            self.assertEqual(self.check(diagonal_table(numbers, many, many), many),
                             diagonal_numbers(diagonal_table(numbers, many, many)))

    def test_great_numbers_without_common_divisors(self):
        numbers = [10 ** 59 + i for i in range(12)]
        told = self.check(diagonal_table(numbers, 12, 12), 12)
        self.assertEqual(math.prod(told), math.prod(numbers))
        self.assertEqual(told[-1], math.lcm(*numbers))

    def test_great_numbers_in_great_tables(self):
        chance = random.Random(145)
        for height, width in ((20, 20), (40, 6), (6, 40), (25, 30)):
            self.check(table(chance, height, width, 10 ** 60 - 1), width)

    def test_forty_lines(self):
        chance = random.Random(146)
        self.check(table(chance, 40, 40, 9), 40)
        self.check([[chance.choice((0, 0, 0, 0, 0, 1, -1)) for j in range(40)] for i in range(40)], 40)
        low = matrix_product(table(chance, 40, 11, 99), table(chance, 11, 40, 99), 40)
        self.assertEqual(len(self.check(low, 40)), 11)
        self.check(diagonal_table([chance.randint(1, 10 ** 60) for i in range(40)], 40, 40), 40)

    def test_forty_lines_of_great_numbers(self):
        told = self.check(table(random.Random(147), 40, 40, 10 ** 60 - 1), 40)
        self.assertEqual(len(told), 40)

    def test_what_was_told_handed_in_again(self):
        told = diagonal(table(random.Random(148), 12, 12, GREAT), 12)
        for paper in told[1:]:
            self.assertEqual(self.check(paper, 12), [1] * 12)

    def test_border_tables(self):
        for shape in all_shapes(149):
            for k in range(5):
                rows = border_table(shape, k)
                self.assertEqual(self.check(rows, sum(level(piece) == k for piece in shape)), diagonal_numbers(rows))


class TestRank(unittest.TestCase):
    def test_small_ones(self):
        for rows, width, wanted in (([], 0, 0), ([], 4, 0), ([[], []], 0, 0), ([[0, 0]], 2, 0), ([[0, 7]], 2, 1),
                                    ([[1, 2], [2, 4]], 2, 1), ([[1, 2], [2, 5]], 2, 2), ([[2], [3], [5]], 1, 1)):
            self.assertEqual(rank(rows, width), wanted)

    def test_of_the_flipped_table(self):
        for rows, width in tables(150, 6):
            told = rank(rows, width)
            self.assertEqual(told, len(diagonal(rows, width)[0]))
            self.assertEqual(rank([[row[j] for row in rows] for j in range(width)], len(rows)), told)


class TestRefused(unittest.TestCase):
    def test_no_tables(self):
        for ask in (diagonal, rank):
            for thing in NO_TABLES:
                with self.assertRaises(NoTable):
                    ask(thing, 1)
            for thing in ([[1]], [[]] * 41, None, (), [None], [()], [[], [0]]):
                with self.assertRaises(NoTable):
                    ask(thing, 0)
            with self.assertRaises(NoTable):
                ask([[1] * 40] * 41, 40)

    def test_what_is_refused_stays_and_can_be_asked_again(self):
        thing = [[1, 2], [3]]
        for turn in range(2):
            with self.assertRaises(NoTable):
                diagonal(thing, 2)
            self.assertEqual(thing, [[1, 2], [3]])
        thing[1].append(4)
        self.assertEqual(diagonal(thing, 2)[0], [1, 2])


class TestNothingChanges(DiagonalCase):
    def test_told_lists_are_the_askers_own(self):
        for rows, width in (([[1, 2], [3, 4]], 2), ([], 2), ([[], []], 0), ([[1, 0], [0, 1]], 2), ([[0, 0]], 2)):
            told = diagonal(rows, width)
            wanted, kept = copy.deepcopy(told), copy.deepcopy(rows)
            lines = [line for part in told[1:] for line in part]
            self.assertEqual(len({id(line) for line in lines}), len(lines))
            for line in lines:
                line.append(5)
            for part in told:
                part.append(7)
            self.assertEqual((diagonal(rows, width), rows), (wanted, kept))

    def test_what_is_done_to_what_was_handed_in_changes_nothing_told(self):
        rows = [[1, 0], [0, 2]]
        told = diagonal(rows, 2)
        wanted = copy.deepcopy(told)
        rows[0][0] = 9
        rows[1].clear()
        rows.pop()
        self.assertEqual(told, wanted)

    def test_the_same_row_handed_in_twice(self):
        row = [2, 4]
        self.assertEqual(self.check([row, row], 2), [2])
        self.assertEqual(row, [2, 4])


if __name__ == "__main__":
    unittest.main()
