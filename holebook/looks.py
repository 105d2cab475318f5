"""Looks at papers, whoever made them: whether they hold."""

from holebook.borders import border, is_round
from holebook.chains import is_chain, plus, times, weigh
from holebook.holes import lift_of
from holebook.pieces import level_of
from holebook.primes import counted
from holebook.shapes import LEVELS, places_of_level
from holebook.solving import is_multiple, number_at
from holebook.tables import is_list_of_wholes, ones, product
from holebook.wholes import is_whole


def diagonal_holds(table, width, thing):
    height = len(table)
    if not isinstance(thing, tuple) or len(thing) != 5 or not are_numbers(thing[0], min(height, width)):
        return False
    if not are_turns(thing[1], thing[2], height) or not are_turns(thing[3], thing[4], width):
        return False
    turned = product(product(thing[1], table, width), thing[3], width)
    return turned == [straight_row(thing[0], i, width) for i in range(height)]


def are_numbers(thing, most):
    if not isinstance(thing, list) or len(thing) > most or not is_list_of_wholes(thing, len(thing)):
        return False
    return all([number > 0 for number in thing]) and each_divides_the_next(thing)


def each_divides_the_next(numbers):
    return all([is_multiple(after, number) for number, after in zip(numbers, numbers[1:])])


def are_turns(one, back, size):
    if not is_square(one, size) or not is_square(back, size):
        return False
    # Both are square, so the product the other way round is then the one-table, too.
    return product(one, back, size) == ones(size)


def is_square(thing, size):
    return isinstance(thing, list) and len(thing) == size and all([is_list_of_wholes(row, size) for row in thing])


def straight_row(numbers, i, width):
    return [number_at(numbers, i) if j == i else 0 for j in range(width)]


def book_holds(shape, holes, lifts):
    if not are_lifts(shape, lifts) or not isinstance(holes, list) or len(holes) != LEVELS:
        return False
    if not all([are_holes(shape, k, told) for k, told in enumerate(holes)]):
        return False
    if not all([hole_lines_hold(shape, k, told) for k, told in enumerate(holes)]):
        return False
    return all([piece_line_holds(shape, holes, lifts, place) for place in range(len(shape))])


def are_lifts(shape, thing):
    if not isinstance(thing, list) or len(thing) != len(shape):
        return False
    return all([is_chain(shape, level_of(piece) + 1, lift) for piece, lift in zip(shape, thing)])


def are_holes(shape, k, thing):
    if not isinstance(thing, list) or not all([is_hole(shape, k, hole) for hole in thing]):
        return False
    # Nought is a multiple of each number, but no number is one of nought: so the orders of 0 come last.
    return each_divides_the_next([hole[0] for hole in thing])


def is_hole(shape, k, thing):
    if not isinstance(thing, tuple) or len(thing) != 4 or not is_order(thing[0]):
        return False
    if not is_chain(shape, k, thing[1]) or not is_chain(shape, k, thing[2]) or not is_chain(shape, k + 1, thing[3]):
        return False
    return thing[0] != 0 or len(thing[3]) == 0


def is_order(thing):
    return is_whole(thing) and (thing == 0 or thing > 1)


def hole_lines_hold(shape, k, holes):
    # Lines (a) to (d).
    edges = [border(shape, {place: 1}) for place in places_of_level(shape, k + 1)]
    for i, hole in enumerate(holes):
        if not is_round(shape, hole[1]) or border(shape, hole[3]) != times(hole[0], hole[1]):
            return False
        if not all([weigh(hole[2], other[1]) == (1 if j == i else 0) for j, other in enumerate(holes)]):
            return False
        if not all([is_multiple(weigh(hole[2], edge), hole[0]) for edge in edges]):
            return False
    return True


def piece_line_holds(shape, holes, lifts, place):
    # Line (e).
    k = level_of(shape[place])
    piece = {place: 1}
    edge = border(shape, piece)
    told = plus(border(shape, lifts[place]), lift_of(lifts, edge))
    for hole in holes[k]:
        told = plus(told, times(weigh(hole[2], piece), hole[1]))
    # A point has no border that the holes of a level below could weigh.
    below = holes[k - 1] if k > 0 else []
    for hole in below:
        if hole[0] != 0:
            told = plus(told, times(weigh(hole[2], edge) // hole[0], hole[3]))
    return told == piece


def growth_holds(shape, prime, papers):
    if not isinstance(papers, list) or len(papers) != len(shape):
        return False
    if not all([is_paper(shape, prime, place, paper) for place, paper in enumerate(papers)]):
        return False
    edges = [counted(border(shape, paper), prime) for paper in papers]
    # Where no two greatest places are alike, each is that of a piece whose paper has no border.
    ended = [max(edge) for edge in edges if len(edge) > 0]
    return len(set(ended)) == len(ended)


def is_paper(shape, prime, place, thing):
    if not is_chain(shape, level_of(shape[place]), thing) or thing.get(place) != 1:
        return False
    return max(thing) == place and all([0 < number < prime for number in thing.values()])
