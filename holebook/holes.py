"""Books: the holes of a shape, with papers that anybody can walk."""

from holebook.bases import bases_of
from holebook.borders import check_round
from holebook.chains import is_chain, plus, times, weigh
from holebook.errors import NoChain, NoShape
from holebook.shapes import LEVELS, check_level, is_shape


class Book:
    def __init__(self, thing):
        if not is_shape(thing):
            raise NoShape("a book is made of a shape")
        self.pieces = list(thing)
        bases = bases_of(self.pieces)
        # A round of order 1 is a border, and so no hole; its filling goes into the lifts.
        self.levels = [without_borders(parts) for parts in bases]
        self.lifts = lifts_of(self.pieces, bases)

    def shape(self):
        return list(self.pieces)

    def holes(self, k):
        check_level(k, LEVELS)
        return [(order, dict(loop), dict(gauge), dict(filling)) for order, loop, gauge, filling in self.levels[k]]

    def lift(self, place):
        return dict(self.lifts[place])

    def count(self, k):
        check_level(k, LEVELS)
        return len([hole for hole in self.levels[k] if hole[0] == 0])

    def twists(self, k):
        check_level(k, LEVELS)
        return [hole[0] for hole in self.levels[k] if hole[0] != 0]

    def told(self, k, chain):
        check_level(k, LEVELS)
        if not is_chain(self.pieces, k, chain):
            raise NoChain(f"no chain of level {k}")
        check_round(self.pieces, chain)
        numbers = []
        rest = lift_of(self.lifts, chain)
        for order, loop, gauge, filling in self.levels[k]:
            number = weigh(gauge, chain)
            if order != 0:
                # So many times the filling's border takes the place of that many times order rounds.
                rest = plus(rest, times(number // order, filling))
                number = number % order
            numbers.append(number)
        return (numbers, rest)


def without_borders(parts):
    return [part for part in parts if part[0] != 1]


def lifts_of(shape, bases):
    lifts = [{} for piece in shape]
    for parts in bases:
        for order, loop, gauge, filling in parts:
            if order == 1:
                for place, number in gauge.items():
                    lifts[place] = plus(lifts[place], times(number, filling))
    return lifts


def lift_of(lifts, chain):
    told = {}
    for place, number in chain.items():
        told = plus(told, times(number, lifts[place]))
    return told
