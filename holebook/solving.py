"""Which lists a table can make, and which lists it takes to nothing."""

from holebook.diagonal import diagonal
from holebook.errors import NoTable
from holebook.tables import flipped, is_list_of_wholes, times_list


def solved(table, width, wanted):
    papers = papers_for(table, width, wanted)
    numbers = papers[0]
    seen = times_list(papers[1], wanted)
    if first_bar(numbers, seen) is not None:
        return None
    parts = [value // number for value, number in zip(seen, numbers)]
    return times_list(papers[3], parts + [0] * (width - len(numbers)))


def barred(table, width, wanted):
    papers = papers_for(table, width, wanted)
    bar = first_bar(papers[0], times_list(papers[1], wanted))
    if bar is None:
        return None
    return (papers[1][bar], number_at(papers[0], bar))


def spare(table, width):
    papers = diagonal(table, width)
    return flipped(papers[3], width)[len(papers[0]):]


def papers_for(table, width, wanted):
    papers = diagonal(table, width)
    if not is_list_of_wholes(wanted, len(table)):
        raise NoTable("what is wanted is a list of a whole number for each row")
    return papers


def first_bar(numbers, seen):
    for i, value in enumerate(seen):
        if not is_multiple(value, number_at(numbers, i)):
            return i
    return None


def number_at(numbers, i):
    # Behind its numbers the diagonal has noughts.
    return numbers[i] if i < len(numbers) else 0


def is_multiple(value, number):
    return value == 0 if number == 0 else value % number == 0
