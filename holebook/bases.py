"""Bases of the chains of a shape, level by level, in which each border is a multiple of one chain of the base."""

from holebook.borders import border_table, chain_of
from holebook.diagonal import diagonal
from holebook.shapes import LEVELS, places_of_level
from holebook.tables import flipped, ones, product


def bases_of(shape):
    # For each level the rounds of its base, as tuples (order, round, gauge, filling): the border of the filling is the
    # round, order times (order 1, too), or the order is 0. What of a level is no round is a filling of the level below.
    told = []
    loops = ones(len(places_of_level(shape, 0)))
    gauges = ones(len(loops))
    for k in range(LEVELS):
        width = len(places_of_level(shape, k + 1))
        papers = diagonal(product(gauges, border_table(shape, k + 1), width), width)
        told.append(parts_of(shape, k, papers, loops, gauges))
        # The lines behind the numbers of the diagonal are taken to nothing: they are the rounds of the next level.
        many = len(papers[0])
        loops = flipped(papers[3], width)[many:]
        gauges = papers[4][many:]
    return told


def parts_of(shape, k, papers, loops, gauges):
    many = len(loops)
    width = len(places_of_level(shape, k))
    numbers = papers[0] + [0] * (many - len(papers[0]))
    turned_loops = product(flipped(papers[2], many), loops, width)
    turned_gauges = product(papers[1], gauges, width)
    fillings = flipped(papers[3], len(papers[3]))
    told = []
    for i, number in enumerate(numbers):
        filling = {} if number == 0 else chain_of(shape, k + 1, fillings[i])
        loop = chain_of(shape, k, turned_loops[i])
        told.append((number, loop, chain_of(shape, k, turned_gauges[i]), filling))
    return told
