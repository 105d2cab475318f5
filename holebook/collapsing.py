"""Bent pairs, shapes without them, and rounds that are pushed there."""

from holebook.borders import border, check_round
from holebook.chains import plus, times
from holebook.errors import NoPair
from holebook.maps import carried
from holebook.shapes import left_with, spots_of
from holebook.wholes import is_whole


def bent(shape):
    told = []
    for face in range(len(shape)):
        holders = holders_of(shape, face)
        # A piece that has the face twice stands here twice.
        if len(holders) == 1 and len(holders_of(shape, holders[0])) == 0:
            told.append((face, holders[0]))
    return told


def holders_of(shape, face):
    told = []
    for place, piece in enumerate(shape):
        told.extend([place] * piece.count(face))
    return told


def away(shape, thing):
    if not is_bent(shape, thing):
        raise NoPair("no bent pair of the shape")
    kept = [place for place in range(len(shape)) if place not in thing]
    return (left_with(shape, kept), kept)


def is_bent(shape, thing):
    if not isinstance(thing, tuple) or not all([is_whole(place) for place in thing]):
        return False
    return thing in bent(shape)


def core(shape):
    left = shape
    kept = list(range(len(shape)))
    pairs = []
    found = bent(left)
    while len(found) > 0:
        least = found[0]
        pairs.append((kept[least[0]], kept[least[1]]))
        smaller = away(left, least)
        left = smaller[0]
        kept = [kept[place] for place in smaller[1]]
        found = bent(left)
    return (list(left), kept, pairs)


def pushed(shape, chain):
    check_round(shape, chain)
    papers = core(shape)
    left = chain
    filling = {}
    for face, place in papers[2]:
        # What is left never has the piece itself: no other piece has that face, so it would stay in the border.
        edge = border(shape, {place: 1})
        number = left.get(face, 0) * edge[face]
        filling = plus(filling, times(number, {place: 1}))
        left = plus(left, times(-number, edge))
    return (carried(spots_of(papers[1]), left), filling)
