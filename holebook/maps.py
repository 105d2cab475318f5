"""Maps: lists that send the pieces of one shape to those of another."""

from holebook.chains import add_at
from holebook.errors import NoMap
from holebook.pieces import called_by
from holebook.shapes import LEVELS, check_level
from holebook.wholes import is_whole_below


def is_map(thing, shape, other):
    if not isinstance(thing, list) or len(thing) != len(shape):
        return False
    # All of them first: what is no place may not be compared with one.
    if not all([is_whole_below(spot, len(other)) for spot in thing]):
        return False
    # Pieces with the same faces have the same level, too.
    return all([called_by(thing, piece) == other[spot] for piece, spot in zip(shape, thing)])


def carried(spots, chain):
    told = {}
    for place, number in chain.items():
        add_at(told, spots[place], number)
    return told


def followed(first, second):
    return [second[spot] for spot in first]


def hole_table(thing, book, other, k):
    check_level(k, LEVELS)
    if not is_map(thing, book.shape(), other.shape()):
        raise NoMap("no map from the one book's shape to the other's")
    return [other.told(k, carried(thing, hole[1]))[0] for hole in book.holes(k)]
