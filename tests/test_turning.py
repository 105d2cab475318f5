"""Point 13: turns, turners and their papers."""

import copy
import random
import unittest

from holebook.errors import NoTable, NoTurn
from holebook.turning import Turner, back_of
from tests.makers import GREAT, matrix_product, one_table, table, tables
from tests.samples import odd_things

START = [[1, 2, 3], [4, 5, 6]]

# No turns of two lines.
NO_TURNS = odd_things() + [
    0, 1, -1, "", "swap", "minus", "swap 0 1", (), [], ("swap",), ("minus",), ("add",),
    ["swap", 0, 1], ["minus", 0], ["add", 0, 1, 1], [("swap", 0, 1)], (("swap", 0, 1),),
    ("swap", 0), ("swap", 0, 1, 1), ("swap", 0, 1, 0), ("minus", 0, 1), ("minus", 0, 0), ("add", 0, 1),
    ("add", 0, 1, 1, 1), ("add", 0), ("add", 0, 1, 1, 0),
    ("swap", 0, 0), ("swap", 1, 1), ("add", 0, 0, 1), ("add", 1, 1, 0), ("add", 1, 1, -1),
    ("swap", 0, 2), ("swap", 2, 0), ("minus", 2), ("add", 0, 2, 1), ("add", 2, 0, 1), ("minus", 40), ("minus", GREAT),
    ("swap", 0, -1), ("swap", -1, 0), ("minus", -1), ("minus", -2), ("add", 0, -1, 1), ("add", -1, 0, 1),
    ("swap", 0, -GREAT), ("swap", True, 0), ("swap", 0, True), ("swap", 1, False), ("swap", True, False),
    ("minus", True), ("minus", False), ("add", True, 0, 1), ("add", 0, True, 1), ("add", 1, False, 1),
    ("add", 0, 1, True), ("add", 0, 1, False), ("add", 0, 1, None), ("add", 0, 1, "1"), ("add", 0, 1, 1.0),
    ("add", 0, 1, (1,)), ("add", 0, 1, [1]), ("minus", None), ("minus", "0"), ("minus", 0.0), ("minus", (0,)),
    ("swap", 0, None), ("swap", None, 1), ("swap", "0", "1"), ("swap", 0, "1"), ("swap", (0, 1)), ("swap", [0, 1]),
    ("Swap", 0, 1), ("SWAP", 0, 1), (" swap", 0, 1), ("swap ", 0, 1), ("plus", 0), ("plus", 0, 1, 1), ("", 0, 1),
    ("times", 0, 2), ("sub", 0, 1, 1), ("turn", 0), (0, 1), (0, 1, 2), (None, 0, 1), (True, 0), (b"swap", 0, 1),
    (0, "swap", 1), ("minus0",), ("swap", 0, 1, None), (["swap"], 0, 1), (("swap",), 0, 1),
]
NO_TURNS = NO_TURNS + [(thing, 0, 1) for thing in odd_things()] + [("minus", thing) for thing in odd_things()]
NO_TURNS = NO_TURNS + [("add", 0, 1, thing) for thing in odd_things()] + [("swap", 0, thing) for thing in odd_things()]


def turned_by_hand(rows, turn):
    """The rows behind a turn of rows, number by number."""
    told = copy.deepcopy(rows)
    if turn[0] == "swap":
        told[turn[1]], told[turn[2]] = told[turn[2]], told[turn[1]]
    elif turn[0] == "minus":
        told[turn[1]] = [-number for number in told[turn[1]]]
    else:
        told[turn[1]] = [a + turn[3] * b for a, b in zip(rows[turn[1]], rows[turn[2]])]
    return told


def columns(rows, width):
    return [[row[j] for row in rows] for j in range(width)]


def random_turn(chance, lines):
    kind = chance.choice(("swap", "minus", "add", "add")) if lines > 1 else "minus"
    i, j = chance.sample(range(lines), 2) if lines > 1 else (0, 0)
    if kind == "minus":
        return (kind, i)
    return (kind, i, j) if kind == "swap" else (kind, i, j, chance.choice((0, 1, -1, 3, -GREAT, GREAT)))


class TestTurns(unittest.TestCase):
    def done(self, rows, width, *turns):
        turner = Turner(rows, width)
        for name, turn in turns:
            told = turner.turn_rows(turn) if name == "rows" else turner.turn_columns(turn)
            self.assertIsNone(told)
        return turner.now()

    def test_rows(self):
        self.assertEqual(self.done(START, 3, ("rows", ("swap", 0, 1))), [[4, 5, 6], [1, 2, 3]])
        self.assertEqual(self.done(START, 3, ("rows", ("swap", 1, 0))), [[4, 5, 6], [1, 2, 3]])
        self.assertEqual(self.done(START, 3, ("rows", ("minus", 1))), [[1, 2, 3], [-4, -5, -6]])
        self.assertEqual(self.done(START, 3, ("rows", ("add", 0, 1, 10))), [[41, 52, 63], [4, 5, 6]])
        self.assertEqual(self.done(START, 3, ("rows", ("add", 1, 0, -4))), [[1, 2, 3], [0, -3, -6]])
        self.assertEqual(self.done(START, 3, ("rows", ("add", 1, 0, 0))), START)

    def test_columns(self):
        self.assertEqual(self.done(START, 3, ("columns", ("swap", 0, 2))), [[3, 2, 1], [6, 5, 4]])
        self.assertEqual(self.done(START, 3, ("columns", ("minus", 2))), [[1, 2, -3], [4, 5, -6]])
        self.assertEqual(self.done(START, 3, ("columns", ("add", 2, 0, 10))), [[1, 2, 13], [4, 5, 46]])
        self.assertEqual(self.done(START, 3, ("columns", ("add", 0, 2, -1))), [[-2, 2, 3], [-2, 5, 6]])

    def test_one_behind_the_other(self):
        turns = (("rows", ("add", 1, 0, -4)), ("columns", ("add", 1, 0, -2)), ("rows", ("swap", 0, 1)))
        told = self.done(START, 3, *turns)
        self.assertEqual(told, [[0, -3, -6], [1, 0, 3]])

    def test_great_numbers(self):
        told = self.done([[GREAT], [1]], 1, ("rows", ("add", 0, 1, -GREAT)), ("rows", ("add", 1, 0, GREAT)))
        self.assertEqual(told, [[0], [1]])
        told = self.done([[1], [GREAT]], 1, ("rows", ("add", 0, 1, GREAT)))
        self.assertEqual(told, [[GREAT * GREAT + 1], [GREAT]])

    def test_by_chance(self):
        chance = random.Random(131)
        for rows, width in tables(131, 5, 2):
            turner, now = Turner(rows, width), copy.deepcopy(rows)
            for step in range(6):
                if rows:
                    turn = random_turn(chance, len(rows))
                    turner.turn_rows(turn)
                    now = turned_by_hand(now, turn)
                    self.assertEqual(turner.now(), now)
                if width:
                    turn = random_turn(chance, width)
                    turner.turn_columns(turn)
                    now = columns(turned_by_hand(columns(now, width), turn), len(rows))
                    self.assertEqual(turner.now(), now)


class TestBackOf(unittest.TestCase):
    def test_each_turn(self):
        for turn in (("swap", 0, 1), ("swap", 7, 3), ("minus", 0), ("minus", 39)):
            self.assertEqual(back_of(turn), turn)
        self.assertEqual(back_of(("add", 0, 1, 5)), ("add", 0, 1, -5))
        self.assertEqual(back_of(("add", 3, 2, -GREAT)), ("add", 3, 2, GREAT))
        self.assertEqual(back_of(("add", 3, 2, 0)), ("add", 3, 2, 0))
        self.assertIs(type(back_of(("add", 0, 1, 5))), tuple)

    def test_it_turns_back(self):
        chance = random.Random(132)
        for rows, width in tables(132, 4, 2):
            for step in range(4):
                turner = Turner(rows, width)
                if rows:
                    turn = random_turn(chance, len(rows))
                    turner.turn_rows(turn)
                    turner.turn_rows(back_of(turn))
                if width:
                    turn = random_turn(chance, width)
                    turner.turn_columns(turn)
                    turner.turn_columns(back_of(turn))
                self.assertEqual(turner.now(), rows)


class TestTakeBack(unittest.TestCase):
    def test_the_last_one_each_time(self):
        chance = random.Random(133)
        for rows, width in tables(133, 4, 3):
            turner = Turner(rows, width)
            seen = [(turner.now(), turner.papers())]
            for step in range(8):
                by_rows = chance.random() < 0.5
                lines = len(rows) if by_rows else width
                if lines:
                    (turner.turn_rows if by_rows else turner.turn_columns)(random_turn(chance, lines))
                    seen.append((turner.now(), turner.papers()))
                    self.assertEqual(turner.many(), len(seen) - 1)
            while len(seen) > 1:
                self.assertEqual((turner.now(), turner.papers()), seen.pop())
                self.assertIsNone(turner.take_back())
                self.assertEqual(turner.many(), len(seen) - 1)
            self.assertEqual((turner.now(), turner.papers()), seen[0])

    def test_none_left(self):
        turner = Turner(START, 3)
        for turn in range(2):
            with self.assertRaises(NoTurn):
                turner.take_back()
            self.assertEqual((turner.now(), turner.many()), (START, 0))
        turner.turn_columns(("minus", 0))
        turner.take_back()
        with self.assertRaises(NoTurn):
            turner.take_back()
        turner.turn_rows(("minus", 0))
        self.assertEqual((turner.now(), turner.many()), ([[-1, -2, -3], [4, 5, 6]], 1))

    def test_turns_behind_a_taking_back(self):
        turner = Turner(START, 3)
        turner.turn_rows(("add", 0, 1, 2))
        turner.turn_columns(("swap", 0, 1))
        turner.take_back()
        turner.turn_columns(("minus", 0))
        self.assertEqual((turner.now(), turner.many()), ([[-9, 12, 15], [-4, 5, 6]], 2))
        turner.take_back()
        turner.take_back()
        self.assertEqual((turner.now(), turner.many()), (START, 0))


class TestPapers(unittest.TestCase):
    def check(self, turner, rows, width):
        height = len(rows)
        told = turner.papers()
        self.assertIs(type(told), tuple)
        left, left_back, right, right_back = told
        for paper, size in ((left, height), (left_back, height), (right, width), (right_back, width)):
            self.assertEqual((len(paper), [len(row) for row in paper]), (size, [size] * size))
            self.assertIs(type(paper), list)
        self.assertEqual(matrix_product(matrix_product(left, rows, width), right, width), turner.now())
        for one, other, size in ((left, left_back, height), (right, right_back, width)):
            self.assertEqual(matrix_product(one, other, size), one_table(size))
            self.assertEqual(matrix_product(other, one, size), one_table(size))

    def test_ahead_of_any_turn(self):
        self.assertEqual(Turner(START, 3).papers(), (one_table(2), one_table(2), one_table(3), one_table(3)))

    def test_behind_one_turn(self):
        turner = Turner(START, 3)
        turner.turn_rows(("add", 0, 1, 5))
        self.assertEqual(turner.papers(), ([[1, 5], [0, 1]], [[1, -5], [0, 1]], one_table(3), one_table(3)))
        turner = Turner(START, 3)
        turner.turn_columns(("add", 0, 2, 5))
        right, back = [[1, 0, 0], [0, 1, 0], [5, 0, 1]], [[1, 0, 0], [0, 1, 0], [-5, 0, 1]]
        self.assertEqual(turner.papers(), (one_table(2), one_table(2), right, back))

    def test_behind_any_turns_and_takings_back(self):
        chance = random.Random(134)
        for rows, width in tables(134, 5, 3):
            turner, stand = Turner(rows, width), 0
            for step in range(10):
                lines = chance.choice((len(rows), -width))
                if stand and chance.random() < 0.3:
                    turner.take_back()
                    stand -= 1
                elif lines > 0:
                    turner.turn_rows(random_turn(chance, lines))
                    stand += 1
                elif lines < 0:
                    turner.turn_columns(random_turn(chance, -lines))
                    stand += 1
                self.assertEqual(turner.many(), stand)
            self.check(turner, rows, width)

    def test_forty_lines(self):
        chance = random.Random(135)
        rows = table(chance, 40, 40, 9)
        turner = Turner(rows, 40)
        for step in range(60):
            turner.turn_rows(random_turn(chance, 40))
            turner.turn_columns(random_turn(chance, 40))
        self.check(turner, rows, 40)
        self.assertEqual(turner.many(), 120)


class TestRefused(unittest.TestCase):
    def test_no_turns(self):
        turner = Turner([[1, 2], [3, 4]], 2)
        turner.turn_rows(("add", 0, 1, 1))
        wanted = (turner.now(), turner.many(), turner.papers())
        for thing in NO_TURNS:
            for turn in (turner.turn_rows, turner.turn_columns):
                with self.assertRaises(NoTurn):
                    turn(thing)
        self.assertEqual((turner.now(), turner.many(), turner.papers()), wanted)
        turner.take_back()
        self.assertEqual(turner.now(), [[1, 2], [3, 4]])

    def test_lines_are_counted_for_rows_and_columns_apart(self):
        turner = Turner(START, 3)
        for turn in (("swap", 0, 2), ("swap", 2, 1), ("minus", 2), ("add", 2, 0, 1), ("add", 0, 2, 1)):
            with self.assertRaises(NoTurn):
                turner.turn_rows(turn)
            turner.turn_columns(turn)
        self.assertEqual(turner.many(), 5)

    def test_without_rows_or_columns(self):
        for rows, width in (([], 0), ([], 3), ([[], []], 0)):
            turner = Turner(rows, width)
            self.assertEqual((turner.now(), turner.many()), (rows, 0))
            sizes = (len(rows), len(rows), width, width)
            self.assertEqual(turner.papers(), tuple(one_table(size) for size in sizes))
            for turn, lines in ((turner.turn_rows, len(rows)), (turner.turn_columns, width)):
                for thing in (("minus", 0), ("swap", 0, 1), ("add", 1, 0, 4)):
                    if lines:
                        turn(thing)
                        self.assertEqual(turner.now(), rows)
                    else:
                        with self.assertRaises(NoTurn):
                            turn(thing)
            self.assertEqual(turner.many(), 3 if rows or width else 0)

    def test_no_tables(self):
        things = odd_things() + [0, 1, "", "1", (), ((1,),), ([1],), [1], [(1,)], [[True]], [[None]], [["1"]], [[1.0]],
                                 [[]], [[1, 2]], [[1], [2, 3]], [[1], []], [[1]] * 41, [None], [[1], None]]
        for thing in things:
            with self.assertRaises(NoTable):
                Turner(thing, 1)
        for thing in ([[1]], [[]] * 41, None, (), [None], [()]):
            with self.assertRaises(NoTable):
                Turner(thing, 0)
        self.assertEqual(Turner([[1]] * 40, 1).now(), [[1]] * 40)


class TestNothingChanges(unittest.TestCase):
    def test_what_is_handed_in_stays(self):
        rows = copy.deepcopy(START)
        turner = Turner(rows, 3)
        turner.turn_rows(("add", 0, 1, 2))
        turner.turn_rows(("swap", 0, 1))
        turner.turn_columns(("minus", 1))
        self.assertEqual(rows, START)
        rows[0][0] = 99
        rows.append([1, 1, 1])
        turner.take_back()
        turner.take_back()
        turner.take_back()
        self.assertEqual(turner.now(), START)
        self.assertEqual(len(turner.papers()[0]), 2)

    def test_what_was_handed_in_is_changed_ahead_of_any_turn(self):
        rows = copy.deepcopy(START)
        turner = Turner(rows, 3)
        rows[0][0] = 99
        rows[1].clear()
        rows.pop()
        self.assertEqual(turner.now(), START)

    def test_the_same_row_handed_in_twice(self):
        row = [1, 2]
        turner = Turner([row, row], 2)
        turner.turn_rows(("minus", 0))
        self.assertEqual((turner.now(), row), ([[-1, -2], [1, 2]], [1, 2]))

    def test_told_tables_are_the_askers_own(self):
        turner = Turner(START, 3)
        turner.turn_rows(("add", 0, 1, 2))
        turner.turn_columns(("add", 0, 1, 2))
        wanted = copy.deepcopy((turner.now(), turner.papers()))
        for told in (turner.now(),) + turner.papers():
            for row in told:
                row[0] = 77
                row.append(7)
            told.append([])
        self.assertEqual((turner.now(), turner.papers()), wanted)

    def test_what_is_done_later_changes_none_told_before(self):
        turner = Turner(START, 3)
        turner.turn_rows(("minus", 0))
        told = (turner.now(), turner.papers())
        wanted = copy.deepcopy(told)
        turner.turn_rows(("add", 0, 1, 2))
        turner.turn_columns(("swap", 0, 1))
        turner.turn_columns(("minus", 0))
        self.assertEqual(told, wanted)
        turner.take_back()
        turner.take_back()
        turner.take_back()
        turner.take_back()
        self.assertEqual(told, wanted)

    def test_two_turners_beside_one_another(self):
        rows = copy.deepcopy(START)
        one, other = Turner(rows, 3), Turner(rows, 3)
        one.turn_rows(("minus", 0))
        self.assertEqual((other.now(), other.many()), (START, 0))
        other.turn_columns(("swap", 0, 1))
        one.take_back()
        self.assertEqual((one.now(), one.many()), (START, 0))
        self.assertEqual((other.now(), other.many()), ([[2, 1, 3], [5, 4, 6]], 1))
        self.assertEqual(one.papers(), (one_table(2), one_table(2), one_table(3), one_table(3)))


if __name__ == "__main__":
    unittest.main()
