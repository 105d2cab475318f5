"""Tables: lists of rows of whole numbers, all of one width."""

from holebook.wholes import is_whole

MOST_ROWS = 40


def is_table(thing, width):
    if not isinstance(thing, list) or len(thing) > MOST_ROWS:
        return False
    return all([is_list_of_wholes(row, width) for row in thing])


def is_list_of_wholes(thing, many):
    return isinstance(thing, list) and len(thing) == many and all([is_whole(number) for number in thing])


def product(one, other, width):
    return [list_times(row, other, width) for row in one]


def flipped(table, width):
    return [column(table, j) for j in range(width)]


def column(table, j):
    return [row[j] for row in table]


def ones(size):
    return [one_row(size, i) for i in range(size)]


def one_row(size, i):
    return [1 if j == i else 0 for j in range(size)]


def times_list(table, numbers):
    return [sum([one * other for one, other in zip(row, numbers)]) for row in table]


def list_times(numbers, table, width):
    told = [0] * width
    for number, row in zip(numbers, table):
        told = mixed(1, told, number, row)
    return told


def mixed(a, one, b, other):
    return [a * left + b * right for left, right in zip(one, other)]


def copied(table):
    return [list(row) for row in table]
