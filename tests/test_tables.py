"""Point 12: tables, their products, and one-tables."""

import random
import unittest

from holebook.tables import flipped, is_table, list_times, ones, product, times_list
from tests.makers import GREAT, matrix_product, one_table, table, tables
from tests.samples import odd_things

NO_NUMBERS = odd_things() + ["", "0", "1", (), (1,), [], [1]]
NO_LISTS = odd_things() + ["", "0", 0, 1, -1, (), (1,), ((1,),), ([1],)]


class TestIsTable(unittest.TestCase):
    def test_tables(self):
        self.assertIs(is_table([[1, 2], [3, 4], [-5, 0]], 2), True)
        self.assertIs(is_table([[GREAT, -GREAT, 10 ** 6000]], 3), True)
        for numbers, width in tables(121):
            self.assertIs(is_table(numbers, width), True)

    def test_no_rows(self):
        for width in (0, 1, 7, 40):
            self.assertIs(is_table([], width), True)

    def test_no_columns(self):
        for many in (1, 2, 39, 40):
            self.assertIs(is_table([[]] * many, 0), True)
        self.assertIs(is_table([[]] * 41, 0), False)

    def test_forty_rows_and_one_more(self):
        for width in (0, 1, 40):
            self.assertIs(is_table([[0] * width for i in range(40)], width), True)
            for many in (41, 42, 300):
                self.assertIs(is_table([[0] * width for i in range(many)], width), False)

    def test_other_lengths(self):
        for width in (0, 1, 2, 39, 40):
            for other in (width - 1, width + 1):
                if other >= 0:
                    self.assertIs(is_table([[0] * other], width), False)
                    self.assertIs(is_table([[0] * width, [0] * other], width), False)
                    self.assertIs(is_table([[0] * other, [0] * width], width), False)
        self.assertIs(is_table([[1, 2], [1]], 2), False)
        self.assertIs(is_table([[]], 1), False)
        self.assertIs(is_table([[1]], 0), False)

    def test_numbers_that_are_none(self):
        for thing in NO_NUMBERS:
            self.assertIs(is_table([[thing]], 1), False)
            self.assertIs(is_table([[1, 2], [3, thing]], 2), False)
            self.assertIs(is_table([[1, thing], [3, 4]], 2), False)

    def test_rows_that_are_none(self):
        for thing in NO_LISTS:
            for width in (0, 1):
                self.assertIs(is_table([thing], width), False)
                self.assertIs(is_table([[0] * width, thing], width), False)
        self.assertIs(is_table([(1, 2)], 2), False)
        self.assertIs(is_table([[1, 2], (1, 2)], 2), False)
        self.assertIs(is_table(["12"], 2), False)
        self.assertIs(is_table([{0: 1, 1: 2}], 2), False)

    def test_no_lists(self):
        for thing in NO_LISTS:
            for width in (0, 1, 2):
                self.assertIs(is_table(thing, width), False)

    def test_a_list_that_holds_itself(self):
        thing = []
        thing.append(thing)
        self.assertIs(is_table(thing, 1), False)


class TestProduct(unittest.TestCase):
    def test_small_ones(self):
        self.assertEqual(product([[1, 2], [3, 4]], [[5, 6], [7, 8]], 2), [[19, 22], [43, 50]])
        self.assertEqual(product([[1, 2, 3]], [[1], [10], [100]], 1), [[321]])
        self.assertEqual(product([[2], [-3]], [[5, 7]], 2), [[10, 14], [-15, -21]])

    def test_without_rows_or_columns(self):
        self.assertEqual(product([], [[1, 2], [3, 4]], 2), [])
        self.assertEqual(product([], [], 0), [])
        self.assertEqual(product([], [], 5), [])
        self.assertEqual(product([[], []], [], 3), [[0, 0, 0], [0, 0, 0]])
        self.assertEqual(product([[], []], [], 0), [[], []])
        self.assertEqual(product([[1, 2], [3, 4]], [[], []], 0), [[], []])

    def test_by_chance(self):
        chance = random.Random(122)
        for height in (0, 1, 2, 5, 40):
            for middle in (0, 1, 3, 6, 40):
                for width in (0, 1, 4, 40):
                    one = table(chance, height, middle, GREAT)
                    other = table(chance, middle, width, 9)
                    self.assertEqual(product(one, other, width), matrix_product(one, other, width))

    def test_great_numbers(self):
        self.assertEqual(product([[GREAT, -GREAT]], [[GREAT], [GREAT + 1]], 1), [[-GREAT]])
        self.assertEqual(product([[10 ** 5000]], [[-10 ** 5000]], 1), [[-10 ** 10000]])


class TestFlipped(unittest.TestCase):
    def test_small_ones(self):
        self.assertEqual(flipped([[1, 2, 3], [4, 5, 6]], 3), [[1, 4], [2, 5], [3, 6]])
        self.assertEqual(flipped([[1, 2, 3]], 3), [[1], [2], [3]])
        self.assertEqual(flipped([[1], [2]], 1), [[1, 2]])

    def test_without_rows_or_columns(self):
        self.assertEqual(flipped([], 0), [])
        self.assertEqual(flipped([], 3), [[], [], []])
        self.assertEqual(flipped([[], []], 0), [])

    def test_there_and_back(self):
        for numbers, width in tables(123):
            told = flipped(numbers, width)
            self.assertEqual(len(told), width)
            for i, row in enumerate(numbers):
                self.assertEqual([line[i] for line in told], row)
            self.assertEqual(flipped(told, len(numbers)), numbers)


class TestOnes(unittest.TestCase):
    def test_each_size(self):
        self.assertEqual(ones(0), [])
        self.assertEqual(ones(1), [[1]])
        self.assertEqual(ones(3), [[1, 0, 0], [0, 1, 0], [0, 0, 1]])
        for size in range(41):
            self.assertEqual(ones(size), one_table(size))

    def test_products_with_it(self):
        for numbers, width in tables(124, 5):
            self.assertEqual(product(ones(len(numbers)), numbers, width), numbers)
            self.assertEqual(product(numbers, ones(width), width), numbers)


class TestLists(unittest.TestCase):
    def test_times_list(self):
        self.assertEqual(times_list([[1, 2], [3, 4], [0, -1]], [10, 1]), [12, 34, -1])
        self.assertEqual(times_list([], []), [])
        self.assertEqual(times_list([], [1, 2]), [])
        self.assertEqual(times_list([[], []], []), [0, 0])
        self.assertEqual(times_list([[GREAT, 1]], [GREAT, -1]), [GREAT * GREAT - 1])

    def test_list_times(self):
        self.assertEqual(list_times([10, 1], [[1, 2, 0], [3, 4, -1]], 3), [13, 24, -1])
        self.assertEqual(list_times([], [], 0), [])
        self.assertEqual(list_times([], [], 3), [0, 0, 0])
        self.assertEqual(list_times([5, 6], [[], []], 0), [])
        self.assertEqual(list_times([GREAT, -1], [[GREAT], [1]], 1), [GREAT * GREAT - 1])

    def test_they_are_products_with_a_column_or_a_row(self):
        chance = random.Random(125)
        for numbers, width in tables(125):
            across = [chance.randint(-GREAT, GREAT) for j in range(width)]
            down = [chance.randint(-GREAT, GREAT) for row in numbers]
            told = matrix_product(numbers, [[number] for number in across], 1)
            self.assertEqual(times_list(numbers, across), [row[0] for row in told])
            self.assertEqual([list_times(down, numbers, width)], matrix_product([down], numbers, width))

    def test_they_tell_whole_numbers(self):
        for told in (times_list([[]], []), list_times([], [], 1), times_list([[1]], [0])):
            self.assertIs(type(told[0]), int)


class TestNothingChanges(unittest.TestCase):
    def test_what_is_handed_in_stays(self):
        one, other, numbers = [[1, 2], [3, 4]], [[5, 6], [7, 8]], [9, 10]
        is_table(one, 2)
        product(one, other, 2)
        flipped(one, 2)
        times_list(one, numbers)
        list_times(numbers, one, 2)
        self.assertEqual((one, other, numbers), ([[1, 2], [3, 4]], [[5, 6], [7, 8]], [9, 10]))

    def test_told_lists_are_the_askers_own(self):
        one, numbers = [[1, 2], [3, 4]], [1, 0]
        asked = (lambda: product(one, ones(2), 2), lambda: product(ones(2), one, 2), lambda: flipped(one, 2),
                 lambda: ones(3), lambda: product([[], []], [], 2), lambda: flipped([], 2), lambda: product([], [], 2))
        for ask in asked:
            told, wanted = ask(), ask()
            self.assertEqual(len({id(row) for row in told}), len(told))
            for row in told:
                row.append(99)
            told.append([])
            self.assertEqual(ask(), wanted)
        asked = (lambda: times_list(one, numbers), lambda: list_times(numbers, one, 2), lambda: list_times([], [], 0))
        for ask in asked:
            told, wanted = ask(), ask()
            told.append(5)
            self.assertEqual(ask(), wanted)
        self.assertEqual((one, numbers), ([[1, 2], [3, 4]], [1, 0]))

    def test_what_is_done_to_what_was_handed_in_changes_nothing_told(self):
        one = [[1, 2], [3, 4]]
        told = (product(one, ones(2), 2), product(ones(2), one, 2), flipped(one, 2), list_times([1, 0], one, 2))
        one[0][0] = 50
        one.pop()
        self.assertEqual(told, ([[1, 2], [3, 4]], [[1, 2], [3, 4]], [[1, 3], [2, 4]], [1, 2]))


if __name__ == "__main__":
    unittest.main()
