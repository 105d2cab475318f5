"""Stairs: rows turned until each one begins further on than the one above it."""

from holebook.lines import Lines


def stepped(table, width, lines):
    # Each row is turned together with its row of the paper behind it: so no row is ever all noughts,
    # and the numbers of the paper are kept small by the same steps as those of the table.
    stairs = Stairs([row + paper for row, paper in zip(table, lines.rows)], list(lines.backs))
    for i in range(len(table)):
        stairs.put_in(i)
        stairs.shrink()
    papers = Lines([row[width:] for row in stairs.rows], stairs.backs)
    return ([row[:width] for row in stairs.rows], papers)


class Stairs(Lines):
    def __init__(self, rows, backs):
        Lines.__init__(self, rows, backs)
        # Where each row that was put in begins; those rows stand ahead of the others.
        self.starts = []

    def put_in(self, i):
        spot = 0
        while spot < i and self.starts[spot] <= start_of(self.rows[i]):
            if self.starts[spot] == start_of(self.rows[i]):
                self.meet(spot, i)
            spot = spot + 1
        self.rows.insert(spot, self.rows.pop(i))
        self.backs.insert(spot, self.backs.pop(i))
        self.starts.insert(spot, start_of(self.rows[spot]))
        if self.rows[spot][self.starts[spot]] < 0:
            self.turn(("minus", spot))

    def meet(self, spot, i):
        at = self.starts[spot]
        head = self.rows[spot][at]
        other = self.rows[i][at]
        if other % head == 0:
            self.turn(("add", i, spot, -(other // head)))
        else:
            self.blend(spot, i, head, other)
            self.shrink_row(spot, spot + 1)
        # At once, not only when the row is put in: what is left great here makes all greater that is met further on.
        self.shrink_row(i, spot + 1)

    def shrink(self):
        # From the last row up, so that each row is shrunk by rows that are small already.
        for i in range(len(self.starts) - 1, -1, -1):
            self.shrink_row(i, i + 1)

    def shrink_row(self, i, first):
        for j in range(first, len(self.starts)):
            at = self.starts[j]
            quotient = self.rows[i][at] // self.rows[j][at]
            if quotient != 0:
                self.turn(("add", i, j, -quotient))


def start_of(row):
    at = 0
    while row[at] == 0:
        at = at + 1
    return at
