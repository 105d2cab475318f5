"""Turners: tables that are turned, with papers that tell how, and turned back."""

from holebook.errors import NoTable, NoTurn
from holebook.lines import Lines, turned
from holebook.tables import copied, flipped, is_table, ones
from holebook.wholes import is_whole, is_whole_below


def back_of(turn):
    if turn[0] == "add":
        return ("add", turn[1], turn[2], -turn[3])
    return turn


def is_turn(thing, many):
    if not isinstance(thing, tuple) or len(thing) == 0 or not isinstance(thing[0], str):
        return False
    if thing[0] == "minus":
        return len(thing) == 2 and is_whole_below(thing[1], many)
    if thing[0] == "swap":
        return len(thing) == 3 and are_two_lines(thing[1], thing[2], many)
    if thing[0] == "add":
        return len(thing) == 4 and are_two_lines(thing[1], thing[2], many) and is_whole(thing[3])
    return False


def are_two_lines(one, other, many):
    return is_whole_below(one, many) and is_whole_below(other, many) and one != other


def check_turn(thing, many):
    if not is_turn(thing, many):
        raise NoTurn(f"no turn of {many} lines")


class Turner:
    def __init__(self, table, width):
        if not is_table(table, width):
            raise NoTable("a turner holds a table of the width that is told")
        self.table = copied(table)
        self.width = width
        self.left = Lines(ones(len(table)), ones(len(table)))
        # Its rows are the columns of the right paper, since those are what is turned.
        self.right = Lines(ones(width), ones(width))
        self.done = []

    def turn_rows(self, thing):
        check_turn(thing, len(self.table))
        self.do_rows(thing)
        self.done.append((True, thing))

    def turn_columns(self, thing):
        check_turn(thing, self.width)
        self.do_columns(thing)
        self.done.append((False, thing))

    def do_rows(self, turn):
        self.table = turned(self.table, turn)
        self.left.turn(turn)

    def do_columns(self, turn):
        self.table = flipped(turned(flipped(self.table, self.width), turn), len(self.table))
        self.right.turn(turn)

    def take_back(self):
        if len(self.done) == 0:
            raise NoTurn("no turn is left to take back")
        last = self.done.pop()
        if last[0]:
            self.do_rows(back_of(last[1]))
        else:
            self.do_columns(back_of(last[1]))

    def many(self):
        return len(self.done)

    def now(self):
        return copied(self.table)

    def papers(self):
        left_back = flipped(self.left.backs, len(self.table))
        right = flipped(self.right.rows, self.width)
        return (copied(self.left.rows), left_back, right, copied(self.right.backs))
