"""The diagonal of a table, with the papers that bring it there and back."""

from holebook.errors import NoTable
from holebook.lines import Lines
from holebook.stairs import stepped
from holebook.tables import flipped, is_table, ones

GAPS = (32, 16, 8, 4, 2)


def diagonal(table, width):
    if not is_table(table, width):
        raise NoTable("a diagonal is told of a table of the width that is told")
    work = Work(table, width)
    work.straighten()
    work.put_in_order()
    left_back = flipped(work.left.backs, len(table))
    right = flipped(work.right.rows, width)
    return (work.numbers, work.left.rows, left_back, right, work.right.backs)


def rank(table, width):
    return len(diagonal(table, width)[0])


class Work:
    def __init__(self, table, width):
        self.table = table
        self.width = width
        self.left = Lines(ones(len(table)), ones(len(table)))
        # Its rows are the columns of the right paper, since those are what is turned.
        self.right = Lines(ones(width), ones(width))
        self.numbers = []

    def straighten(self):
        # Even a table that is straight may have noughts ahead of its numbers, or numbers below 0.
        self.step()
        while not is_straight(self.table):
            self.step()
        for i in range(min(len(self.table), self.width)):
            if self.table[i][i] != 0:
                self.numbers.append(self.table[i][i])

    def step(self):
        height = len(self.table)
        by_rows = stepped(self.table, self.width, self.left)
        by_columns = stepped(flipped(by_rows[0], self.width), height, self.right)
        self.table = flipped(by_columns[0], height)
        self.left = by_rows[1]
        self.right = by_columns[1]

    def put_in_order(self):
        many = len(self.numbers)
        # The wide gaps come first, so that numbers without a common divisor are multiplied two by two, not all
        # into one after another: the papers then have far fewer figures.
        for gap in GAPS:
            for i in range(many - gap):
                self.share(i, i + gap)
        for i in range(many):
            for j in range(i + 1, many):
                self.share(i, j)

    def share(self, i, j):
        one = self.numbers[i]
        other = self.numbers[j]
        if other % one != 0:
            self.left.turn(("add", i, j, 1))
            papers = self.right.blend(i, j, one, other)
            self.left.turn(("add", j, i, -(papers[2] * other // papers[0])))
            self.numbers[i] = papers[0]
            self.numbers[j] = one // papers[0] * other


def is_straight(table):
    for i, row in enumerate(table):
        if any([number != 0 for j, number in enumerate(row) if j != i]):
            return False
    return True
