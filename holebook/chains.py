"""Chains: dicts of places and of whole numbers but 0."""

from holebook.pieces import is_place_of_level
from holebook.wholes import is_whole


def is_chain(shape, k, thing):
    if not isinstance(thing, dict):
        return False
    return all([is_part(shape, k, place, number) for place, number in thing.items()])


def is_part(shape, k, place, number):
    return is_place_of_level(shape, place, k) and is_whole(number) and number != 0


def is_chain_of_some_level(shape, thing, bound):
    return any([is_chain(shape, k, thing) for k in range(bound)])


def plus(one, other):
    told = dict(one)
    for place, number in other.items():
        add_at(told, place, number)
    return told


def add_at(chain, place, number):
    total = chain.get(place, 0) + number
    if total == 0:
        chain.pop(place, None)
    else:
        chain[place] = total


def times(number, chain):
    if number == 0:
        return {}
    return dict([(place, number * old) for place, old in chain.items()])


def weigh(gauge, chain):
    return sum([number * chain.get(place, 0) for place, number in gauge.items()])
