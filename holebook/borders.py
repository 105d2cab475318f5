"""Borders of chains, and the tables that tell them."""

from holebook.chains import add_at, is_chain, is_chain_of_some_level
from holebook.errors import NoChain, NoRound
from holebook.shapes import LEVELS, check_level, places_of_level
from holebook.tables import flipped


def border(shape, chain):
    if not is_chain_of_some_level(shape, chain, LEVELS):
        raise NoChain("a chain is a dict of places of one level and of whole numbers but 0")
    told = {}
    for place, number in chain.items():
        add_faces(told, shape[place], number)
    return told


def add_faces(chain, faces, number):
    for i, face in enumerate(faces):
        add_at(chain, face, number if i % 2 == 0 else -number)


def check_round(shape, chain):
    edge = border(shape, chain)
    if len(edge) > 0:
        raise NoRound(edge)


def is_round(shape, chain):
    return len(border(shape, chain)) == 0


def border_table(shape, k):
    # Above the tetrahedra there is one level more, which has no pieces.
    check_level(k, LEVELS + 1)
    below = places_of_level(shape, k - 1)
    columns = [numbers_at(below, border(shape, {place: 1})) for place in places_of_level(shape, k)]
    return flipped(columns, len(below))


def numbers_at(spots, chain):
    return [chain.get(place, 0) for place in spots]


def row_of(shape, k, chain):
    if not is_chain(shape, k, chain):
        raise NoChain(f"no chain of level {k}")
    return numbers_at(places_of_level(shape, k), chain)


def chain_of(shape, k, row):
    return dict([(place, number) for place, number in zip(places_of_level(shape, k), row) if number != 0])
