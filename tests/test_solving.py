"""Points 15 and 16: lists that a table makes, what bars them, and the spare lists."""

import copy
import itertools
import random
import unittest

from holebook.diagonal import rank
from holebook.errors import NoTable
from holebook.solving import barred, solved, spare
from tests.makers import GREAT, diagonal_numbers, diagonal_table, stirred, table, tables
from tests.samples import odd_things
from tests.test_diagonal import NO_TABLES

NO_WANTED = odd_things() + [0, 1, "", "1", "12", (), (1, 2), [], [1], [1, 2, 3], [True, 1], [1, False], [1, None],
                            ["1", 2], [1.0, 2], [[1], 2], [(1,), 2], [[1, 2]], {0: 1, 1: 2}]


def by_hand(rows, numbers):
    return [sum(one * other for one, other in zip(row, numbers)) for row in rows]


class SolvingCase(unittest.TestCase):
    def check(self, rows, width, wanted):
        """Tells whether there is a list, having looked at what both functions tell."""
        handed = (copy.deepcopy(rows), list(wanted))
        found, bar = solved(handed[0], width, handed[1]), barred(handed[0], width, handed[1])
        self.assertEqual(handed, (rows, wanted))
        self.assertEqual((found is None) + (bar is None), 1)
        if bar is None:
            self.check_found(rows, width, wanted, found)
        else:
            self.check_bar(rows, width, wanted, bar)
        return bar is None

    def check_found(self, rows, width, wanted, found):
        self.assertIs(type(found), list)
        self.assertEqual([type(number) for number in found], [int] * width)
        self.assertEqual(by_hand(rows, found), wanted)

    def check_bar(self, rows, width, wanted, bar):
        self.assertIs(type(bar), tuple)
        numbers, m = bar
        self.assertEqual((type(numbers), type(m)), (list, int))
        self.assertEqual([type(number) for number in numbers], [int] * len(rows))
        self.assertTrue(m == 0 or m > 1)
        made = [sum(y * row[j] for y, row in zip(numbers, rows)) for j in range(width)]
        weight = sum(y * b for y, b in zip(numbers, wanted))
        if m == 0:
            self.assertEqual(made, [0] * width)
            self.assertNotEqual(weight, 0)
        else:
            self.assertEqual([number % m for number in made], [0] * width)
            self.assertNotEqual(weight % m, 0)


class TestSolving(SolvingCase):
    def test_small_ones(self):
        for rows, width, wanted, there in (
                ([[2]], 1, [4], True), ([[2]], 1, [3], False), ([[2]], 1, [0], True), ([[-2]], 1, [-6], True),
                ([[0]], 1, [0], True), ([[0]], 1, [1], False), ([[0]], 1, [-1], False),
                ([[6, 10, 15]], 3, [1], True), ([[6, 10, 14]], 3, [1], False), ([[6, 10, 14]], 3, [-2], True),
                ([[1, 2], [3, 4]], 2, [5, 7], True), ([[1, 2], [3, 4]], 2, [0, 1], False),
                ([[1, 2], [2, 4]], 2, [1, 2], True), ([[1, 2], [2, 4]], 2, [1, 3], False),
                ([[2, 0], [0, 3]], 2, [2, 3], True), ([[2, 0], [0, 3]], 2, [1, 3], False),
                ([[2, 0], [0, 3]], 2, [2, 1], False), ([[1], [0]], 1, [GREAT, 0], True),
                ([[1], [0]], 1, [GREAT, 1], False), ([[GREAT]], 1, [GREAT * GREAT], True),
                ([[GREAT]], 1, [GREAT * GREAT + 1], False)):
            self.assertIs(self.check(rows, width, wanted), there)

    def test_the_number_that_bars(self):
        self.assertEqual(barred([[2]], 1, [3])[1], 2)
        self.assertEqual(barred([[0]], 1, [3])[1], 0)
        self.assertEqual(barred([[7]], 1, [3])[1], 7)
        self.assertEqual(barred([[1], [1]], 1, [3, 4])[1], 0)

    def test_without_rows_or_columns(self):
        self.assertEqual(solved([], 0, []), [])
        self.assertIsNone(barred([], 0, []))
        self.assertTrue(self.check([], 3, []))
        self.assertEqual(solved([[], []], 0, [0, 0]), [])
        self.assertIsNone(barred([[], []], 0, [0, 0]))
        self.assertIsNone(solved([[], []], 0, [0, 5]))
        self.assertFalse(self.check([[], []], 0, [0, 5]))
        self.assertFalse(self.check([[], []], 0, [-GREAT, 5]))

    def test_lists_that_the_table_makes(self):
        chance = random.Random(151)
        for rows, width in tables(151, 6):
            for most in (1, 9, GREAT):
                numbers = [chance.randint(-most, most) for j in range(width)]
                self.assertIs(self.check(rows, width, by_hand(rows, numbers)), True)

    def test_other_lists(self):
        chance = random.Random(152)
        seen = {True: 0, False: 0}
        for rows, width in tables(152, 5):
            wanted = [chance.randint(-9, 9) for row in rows]
            # There is a list just where one column more changes no number of the diagonal.
            wider = [row + [number] for row, number in zip(rows, wanted)]
            there = self.check(rows, width, wanted)
            seen[there] += 1
            if max((abs(number) for row in rows for number in row), default=0) < 100:
                self.assertIs(there, diagonal_numbers(wider) == diagonal_numbers(rows))
        self.assertGreater(min(seen.values()), 20)

    def test_what_the_bar_may_be(self):
        chance = random.Random(153)
        for numbers in ([1, 1, 3, 3, 3], [1, 2, 6, 30, 60], [GREAT] * 5, [1, 1], []):
            for turn in range(20):
                rows = stirred(chance, diagonal_table(numbers, 5, 5), 5, 6)
                wanted = [chance.randint(-20, 20) for row in rows]
                if not self.check(rows, 5, wanted):
                    m = barred(rows, 5, wanted)[1]
                    # Whatever bars a table whose diagonal has all its numbers is no nought; ones bar nothing.
                    self.assertEqual(m == 0, len(numbers) < 5)

    def test_great_tables(self):
        chance = random.Random(154)
        rows = table(chance, 30, 20, GREAT)
        self.assertTrue(self.check(rows, 20, by_hand(rows, [chance.randint(-GREAT, GREAT) for j in range(20)])))
        self.assertFalse(self.check(rows, 20, [chance.randint(-GREAT, GREAT) for row in rows]))


class TestSpare(SolvingCase):
    def test_small_ones(self):
        self.assertEqual(spare([[2]], 1), [])
        self.assertEqual(spare([], 0), [])
        self.assertEqual(spare([[], []], 0), [])
        self.assertIn(spare([[1, 1]], 2), ([[1, -1]], [[-1, 1]]))
        self.assertIn(spare([[2, 4]], 2), ([[2, -1]], [[-2, 1]]))
        self.assertIn(spare([[0]], 1), ([[1]], [[-1]]))

    def test_each_is_taken_to_nothing(self):
        for rows, width in tables(161):
            told = spare(rows, width)
            self.assertIs(type(told), list)
            self.assertEqual(len(told), width - rank(rows, width))
            for numbers in told:
                self.assertIs(type(numbers), list)
                self.assertEqual([type(number) for number in numbers], [int] * width)
                self.assertEqual(by_hand(rows, numbers), [0] * len(rows))

    def test_they_are_a_base(self):
        # As rows they have a diagonal of ones: so no list is a sum of the others, and each list that is taken
        # to nothing, of which some multiple is a sum of them, is one itself.
        for rows, width in tables(162, 6, 2):
            told = spare(rows, width)
            self.assertEqual(diagonal_numbers(told), [1] * len(told))

    def test_each_list_taken_to_nothing_is_a_sum_of_them(self):
        chance = random.Random(163)
        seen = 0
        for height, width in ((0, 2), (1, 2), (1, 3), (1, 4), (2, 4), (3, 4)):
            for turn in range(6):
                rows = table(chance, height, width, 4)
                told = spare(rows, width)
                flat = [[line[at] for line in told] for at in range(width)]
                for numbers in itertools.product(range(-4, 5), repeat=width):
                    if not any(by_hand(rows, numbers)):
                        self.assertTrue(self.check(flat, len(told), list(numbers)))
                        seen += 1
        self.assertGreater(seen, 100)

    def test_without_rows(self):
        for width in (1, 2, 40):
            told = spare([], width)
            self.assertEqual(len(told), width)
            self.assertEqual(diagonal_numbers(told), [1] * width)


class TestRefused(unittest.TestCase):
    def test_no_tables(self):
        for thing in NO_TABLES:
            for ask in (lambda: solved(thing, 1, [1]), lambda: barred(thing, 1, [1]), lambda: spare(thing, 1),
                        lambda: solved(thing, 1, None), lambda: barred(thing, 1, None)):
                with self.assertRaises(NoTable):
                    ask()

    def test_what_is_wanted(self):
        for thing in NO_WANTED:
            for ask in (solved, barred):
                with self.assertRaises(NoTable):
                    ask([[1, 2, 3], [4, 5, 6]], 3, thing)
        for thing in [thing for thing in NO_WANTED if not isinstance(thing, list)] + [[0], [None]]:
            for ask in (solved, barred):
                with self.assertRaises(NoTable):
                    ask([], 3, thing)

    def test_as_many_as_rows_not_columns(self):
        for ask in (solved, barred):
            with self.assertRaises(NoTable):
                ask([[1, 2, 3], [4, 5, 6]], 3, [1, 2, 3])
            with self.assertRaises(NoTable):
                ask([[1], [4]], 1, [1])
            ask([[1], [4]], 1, [1, 2])

    def test_what_is_refused_stays_and_can_be_asked_again(self):
        rows, wanted = [[1], [0]], [1]
        for turn in range(2):
            for ask in (solved, barred):
                with self.assertRaises(NoTable):
                    ask(rows, 1, wanted)
            self.assertEqual((rows, wanted), ([[1], [0]], [1]))
        wanted.append(0)
        self.assertEqual(solved(rows, 1, wanted), [1])


class TestNothingChanges(unittest.TestCase):
    def test_told_lists_are_the_askers_own(self):
        rows, wanted = [[1, 0, 0], [0, 2, 0]], [1, 2]
        for turn in range(2):
            found, bar, left = solved(rows, 3, wanted), barred(rows, 3, [1, 1]), spare(rows, 3)
            self.assertEqual((found[:2], bar[1], len(left)), ([1, 1], 2, 1))
            found.clear()
            bar[0].append(4)
            left[0].clear()
            left.clear()
        self.assertEqual((rows, wanted), ([[1, 0, 0], [0, 2, 0]], [1, 2]))

    def test_what_is_done_to_what_was_handed_in_changes_nothing_told(self):
        rows, wanted = [[1, 0], [0, 0]], [1, 0]
        told = (solved(rows, 2, wanted), barred(rows, 2, [0, 1]), spare(rows, 2))
        kept = copy.deepcopy(told)
        rows[0].clear()
        wanted[0] = 7
        self.assertEqual(told, kept)


if __name__ == "__main__":
    unittest.main()
