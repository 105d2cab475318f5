"""Cones: a shape, a tip, and over each piece another one that leads to the tip."""

from holebook.chains import is_chain_of_some_level
from holebook.errors import NoChain, NoGlue
from holebook.pieces import level_of, moved
from holebook.shapes import LEVELS, check_size, places_of_level


def cone(shape):
    if len(places_of_level(shape, LEVELS - 1)) > 0:
        raise NoGlue("there is no piece to stand over a tetrahedron")
    tip = len(shape)
    told = shape + [()] + [piece_over(place, piece, tip) for place, piece in enumerate(shape)]
    check_size(told)
    return told


def piece_over(place, piece, tip):
    if level_of(piece) == 0:
        return (place, tip)
    return (place,) + moved(piece, tip + 1)


def coned(shape, chain):
    if not is_chain_of_some_level(shape, chain, LEVELS - 1):
        raise NoChain("what is coned is a chain of level 0, 1 or 2")
    first = len(shape) + 1
    return dict([(first + place, number) for place, number in chain.items()])
