"""Lines: rows that are turned, and with them what turns them back."""

from holebook.tables import mixed
from holebook.wholes import shared_divisor


def turned(lines, turn):
    told = list(lines)
    i = turn[1]
    if turn[0] == "minus":
        told[i] = [-number for number in lines[i]]
    elif turn[0] == "swap":
        told[i] = lines[turn[2]]
        told[turn[2]] = lines[i]
    else:
        told[i] = mixed(1, lines[i], turn[3], lines[turn[2]])
    return told


def across(turn):
    # The product of both papers stays as it is where the columns of the one are turned so for the rows of the other.
    if turn[0] == "add":
        return ("add", turn[2], turn[1], -turn[3])
    return turn


class Lines:
    def __init__(self, rows, backs):
        # Of the paper that turns back the columns are held, so that they are turned like rows.
        self.rows = rows
        self.backs = backs

    def turn(self, turn):
        self.rows = turned(self.rows, turn)
        self.backs = turned(self.backs, across(turn))

    def blend(self, i, j, one, other):
        # Where line i has `one` and line j has `other`, line i then has their greatest divisor and line j has 0.
        papers = shared_divisor(one, other)
        a = papers[1]
        b = papers[2]
        c = -(other // papers[0])
        d = one // papers[0]
        row = self.rows[i]
        self.rows[i] = mixed(a, row, b, self.rows[j])
        self.rows[j] = mixed(c, row, d, self.rows[j])
        # a * d - b * c is 1, so this turns it back.
        back = self.backs[i]
        self.backs[i] = mixed(d, back, -c, self.backs[j])
        self.backs[j] = mixed(-b, back, a, self.backs[j])
        return papers
