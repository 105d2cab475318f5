"""Point 29: looks at papers, whoever made them."""

import copy
import random
import unittest

from holebook.diagonal import diagonal
from holebook.growing import Growth
from holebook.holes import Book
from holebook.looks import book_holds, diagonal_holds, growth_holds
from holebook.turning import Turner
from tests.makers import (GREAT, KNOWN, all_shapes, chain_at, diagonal_table, grown_shapes, level, matrix_product,
                          one_table, side_by_side, tables, wound_ball, wound_disc)
from tests.samples import EXAMPLE, FORTY, LOOP, MIXED, POINT, TETRA, TIGHT, Prickly, odd_things
from tests.test_borders import border_by_hand
from tests.test_growing import counted_by
from tests.test_holes import added, weight
from tests.test_primes import PRIMES

BOTTLE = [(), (0, 0), (0, 0), (0, 0), (1, 3, 2), (3, 2, 1)]
PLANE = [(), (0, 0), (0, 0), (1, 2, 1), (2, 2, 2)]
# What stands in for a paper, or for a thing in one.
OTHERS = (None, True, False, 0, 1, -1, 2, 1.0, "", "1", (), [], {}, [1], (1,), {0: 1}, [[]], [{}], ({},), Prickly, {1})
ANY_THINGS = odd_things() + [0, 1, "", "1", (), (1,), [], [1], [[]], [()], [{}], ([], [], [], [], []), ((), (), (), ()),
                             [[], [], [], []], ([], [], [], []), [None], [[None]], {0: {}}]


def spoilt(thing):
    """Each with one change, somewhere: another thing, another kind, one more, one less, another number."""
    yield from OTHERS
    yield Prickly()
    if type(thing) is int:
        yield from (thing + 1, thing - 1, -thing, 2 * thing, float(thing) if abs(thing) < 2 ** 50 else None)
    elif type(thing) in (list, tuple):
        kind = type(thing)
        yield tuple(thing) if kind is list else list(thing)
        yield thing[:-1]
        yield thing[1:]
        yield thing + kind(thing[-1:] or [0])
        yield thing[::-1]
        for i, part in enumerate(thing):
            for other in spoilt(part):
                yield thing[:i] + kind([other]) + thing[i + 1:]
    elif type(thing) is dict:
        yield list(thing.items())
        for key in (-1, 0, 1, 2, 3, 4, 5, 99, True, False, None, "0", 0.0, (0,)):
            yield {**thing, key: 1}
            yield {**{old: number for old, number in thing.items() if old != key}, key: 1}
        for key, number in thing.items():
            rest = {old: value for old, value in thing.items() if old != key}
            yield rest
            yield {**rest, float(key): number}
            for other in spoilt(number):
                yield {**thing, key: other}


def are_wholes(thing, many):
    return type(thing) is list and len(thing) == many and all(type(number) is int for number in thing)


def diagonal_by_hand(table, width, thing):
    height = len(table)
    if type(thing) is not tuple or len(thing) != 5:
        return False
    numbers, left, left_back, right, right_back = thing
    for paper, size in ((left, height), (left_back, height), (right, width), (right_back, width)):
        if type(paper) is not list or len(paper) != size or not all(are_wholes(row, size) for row in paper):
            return False
    if type(numbers) is not list or not are_wholes(numbers, len(numbers)) or len(numbers) > min(height, width):
        return False
    if any(number < 1 for number in numbers) or any(b % a for a, b in zip(numbers, numbers[1:])):
        return False
    for one, other, size in ((left, left_back, height), (right, right_back, width)):
        if matrix_product(one, other, size) != one_table(size) or matrix_product(other, one, size) != one_table(size):
            return False
    told = matrix_product(matrix_product(left, table, width), right, width)
    return told == diagonal_table(numbers, height, width)


def is_chain_by_hand(shape, k, thing):
    return type(thing) is dict and all(
        type(place) is int and type(number) is int and number != 0 and 0 <= place < len(shape)
        and level(shape[place]) == k for place, number in thing.items())


def holes_by_hand(shape, k, thing):
    """Whether the kinds, the orders and the lines (a) to (d) hold at one level."""
    if type(thing) is not list:
        return False
    for hole in thing:
        if type(hole) is not tuple or len(hole) != 4 or type(hole[0]) is not int or hole[0] < 0 or hole[0] == 1:
            return False
        if not all(is_chain_by_hand(shape, at, part) for at, part in zip((k, k, k + 1), hole[1:])):
            return False
        if hole[0] == 0 and hole[3]:
            return False
    orders = [hole[0] for hole in thing]
    twists = [order for order in orders if order]
    if orders[:len(twists)] != twists or any(b % a for a, b in zip(twists, twists[1:])):
        return False
    for i, (order, loop, gauge, filling) in enumerate(thing):
        if border_by_hand(shape, loop) or border_by_hand(shape, filling) != added((order, loop)):
            return False
        if [weight(gauge, hole[1]) for hole in thing] != [int(i == j) for j in range(len(thing))]:
            return False
        for place, piece in enumerate(shape):
            over = weight(gauge, border_by_hand(shape, {place: 1}))
            if level(piece) == k + 1 and (over % order if order else over):
                return False
    return True


def book_by_hand(shape, holes, lifts):
    if type(holes) is not list or len(holes) != 4 or type(lifts) is not list or len(lifts) != len(shape):
        return False
    if not all(is_chain_by_hand(shape, level(piece) + 1, lift) for piece, lift in zip(shape, lifts)):
        return False
    if not all(holes_by_hand(shape, k, told) for k, told in enumerate(holes)):
        return False
    for place, piece in enumerate(shape):
        k, edge = level(piece), border_by_hand(shape, {place: 1})
        parts = [(gauge.get(place, 0), loop) for order, loop, gauge, filling in holes[k]]
        parts += [(weight(gauge, edge) // order, filling) for order, loop, gauge, filling in (holes[k - 1] if k else ())
                  if order]
        parts.append((1, border_by_hand(shape, lifts[place])))
        parts += [(number, lifts[face]) for face, number in edge.items()]
        if added(*parts) != {place: 1}:
            return False
    return True


def growth_by_hand(shape, prime, papers):
    if type(papers) is not list or len(papers) != len(shape):
        return False
    bears, ended = {}, []
    for place, paper in enumerate(papers):
        if not is_chain_by_hand(shape, level(shape[place]), paper) or paper.get(place) != 1:
            return False
        if not all(key <= place and 1 <= number < prime for key, number in paper.items()):
            return False
        edge = counted_by(prime, border_by_hand(shape, paper))
        bears[place] = not edge
        if edge:
            ended.append(max(edge))
    return len(set(ended)) == len(ended) and all(bears[place] for place in ended)


class LookCase(unittest.TestCase):
    def check_spoilt(self, look, by_hand, papers):
        """Looks at each spoilt thing; a few changes of numbers may leave papers that hold."""
        held = []
        for other in spoilt(papers):
            held.append(by_hand(other))
            self.assertIs(look(other), held[-1])
        self.assertLess(4 * sum(held), len(held))


class TestDiagonalHolds(LookCase):
    def test_what_the_program_tells(self):
        for table, width in tables(291, 6, 2):
            self.assertIs(diagonal_holds(table, width, diagonal(table, width)), True)
        chance = random.Random(292)
        for height, width in ((40, 40), (40, 3), (3, 40), (40, 0), (0, 40), (0, 0)):
            table = [[chance.randint(-9, 9) for j in range(width)] for i in range(height)]
            self.assertIs(diagonal_holds(table, width, diagonal(table, width)), True)

    def test_very_great_numbers(self):
        for table, width in tables(293, 5, 3):
            papers = diagonal(table, width)
            self.assertIs(diagonal_holds(table, width, papers), True)
            if papers[0]:
                papers[0][-1] += 1
                self.assertIs(diagonal_holds(table, width, papers), False)

    def test_what_others_could_tell(self):
        # What a turner tells of a table that was made of a diagonal by turns.
        chance = random.Random(294)
        for numbers, height, width in (([1, 2, 6], 4, 5), ([3], 1, 1), ([], 3, 2), ([2, 2, 4], 3, 3), ([5, 5], 4, 2)):
            for turn in range(5):
                turner = Turner(diagonal_table(numbers, height, width), width)
                for step in range(12):
                    if height > 1:
                        i, j = chance.sample(range(height), 2)
                        turner.turn_rows(("add", i, j, chance.randint(-2, 2)))
                    if width > 1:
                        i, j = chance.sample(range(width), 2)
                        turner.turn_columns(chance.choice((("swap", i, j), ("minus", i), ("add", i, j, 1))))
                left, left_back, right, right_back = turner.papers()
                papers = (numbers, left_back, left, right_back, right)
                self.assertIs(diagonal_by_hand(turner.now(), width, papers), True)
                self.assertIs(diagonal_holds(turner.now(), width, papers), True)

    def test_spoilt_papers(self):
        for table, width in (([[2, 4], [6, 8]], 2), ([[1, 2, 3]], 3), ([[0], [3]], 1), ([[0, 0], [0, 0]], 2), ([], 2),
                             ([[], []], 0), ([], 0), ([[2, 0], [0, 4], [0, 0]], 2)):
            papers = diagonal(table, width)
            kept = copy.deepcopy((table, papers))
            self.assertIs(diagonal_holds(table, width, papers), True)
            self.check_spoilt(lambda other: diagonal_holds(table, width, other),
                              lambda other: diagonal_by_hand(table, width, other), papers)
            self.assertEqual((table, papers), kept)

    def test_each_fault(self):
        one, two = [[1, 0], [0, 1]], [[2, 0], [0, 4]]
        self.assertIs(diagonal_holds(two, 2, ([2, 4], one, one, one, one)), True)
        for papers in (
                ([4, 2], one, one, one, one), ([2], one, one, one, one), ([2, 4, 8], one, one, one, one),
                ([2, 4, 0], one, one, one, one), ([-2, -4], [[-1, 0], [0, -1]], [[-1, 0], [0, -1]], one, one),
                ([2, 4], two, one, one, one), ([1, 2], one, one, one, two), ([4, 8], two, one, one, one),
                ([2, 4], one, one, one, [[1, 1], [0, 1]]), ([2, 4], one, [[1, 0], [5, 1]], one, one),
                ([2, 4], one, one, one), ([2, 4], one, one, one, one, one), [[2, 4], one, one, one, one],
                ((2, 4), one, one, one, one), ([2, 4], ([1, 0], [0, 1]), one, one, one),
                ([2, 4], one, [(1, 0), (0, 1)], one, one), ([2, 4], one, one, [[True, 0], [0, 1]], one),
                ([2, 4], one, one, one, [[1, False], [0, 1]]), ([2, 4.0], one, one, one, one),
                ([2, 4], [[1, 0], [0, 1], [0, 0]], one, one, one), ([2, 4], [[1, 0, 0], [0, 1, 0]], one, one, one)):
            self.assertIs(diagonal_holds(two, 2, papers), False, papers)
        three = [[4, 0], [0, 6]]
        self.assertIs(diagonal_holds(three, 2, ([4, 6], one, one, one, one)), False)
        self.assertIs(diagonal_holds([[1]], 1, ([True], [[1]], [[1]], [[1]], [[1]])), False)
        self.assertIs(diagonal_holds([[0]], 1, ([0], [[1]], [[1]], [[1]], [[1]])), False)
        self.assertIs(diagonal_holds([[0]], 1, ([], [[1]], [[1]], [[1]], [[1]])), True)
        self.assertIs(diagonal_holds([[2]], 1, ([2], [[0]], [[0]], [[1]], [[1]])), False)
        # The left paper would be turned back by a half alone.
        self.assertIs(diagonal_holds([[1]], 1, ([2], [[2]], [[1]], [[1]], [[1]])), False)

    def test_any_thing(self):
        for table, width in (([[2, 4], [6, 8]], 2), ([[1]], 1), ([], 0), ([], 1), ([[]], 0)):
            for thing in ANY_THINGS:
                self.assertIs(diagonal_holds(table, width, thing), diagonal_by_hand(table, width, thing))
        self.assertIs(diagonal_holds([], 0, ([], [], [], [], [])), True)
        self.assertIs(diagonal_holds([], 0, [[], [], [], [], []]), False)
        self.assertIs(diagonal_holds([], 0, ([], [], [], [], ())), False)
        thing = ([], [])
        thing[0].append(thing)
        self.assertIs(diagonal_holds([], 0, thing), False)

    def test_another_table(self):
        for table, width in tables(295, 4, 1):
            papers = diagonal(table, width)
            for i in range(len(table)):
                for j in range(width):
                    other = copy.deepcopy(table)
                    other[i][j] += 1
                    self.assertIs(diagonal_holds(other, width, papers), False)


def papers_of(shape):
    book = Book(shape)
    return [book.holes(k) for k in range(4)], [book.lift(place) for place in range(len(shape))]


def sent_back(order, chain):
    return {order[place]: number for place, number in chain.items()}


class TestBookHolds(LookCase):
    def test_what_the_program_tells(self):
        for shape in [shape for shape, counts, twists in KNOWN] + all_shapes(296, 4):
            holes, lifts = papers_of(shape)
            kept = copy.deepcopy((shape, holes, lifts))
            self.assertIs(book_holds(shape, holes, lifts), True)
            self.assertEqual((shape, holes, lifts), kept)

    def test_what_a_book_of_another_order_tells(self):
        chance = random.Random(297)
        for shape in [EXAMPLE, TETRA, MIXED, BOTTLE, wound_disc(6), wound_ball(4)] + grown_shapes(297, 2):
            left, order = list(range(len(shape))), []
            while left:
                ready = [place for place in left if all(face in order for face in shape[place])]
                order.append(chance.choice(ready))
                left.remove(order[-1])
            holes, lifts = papers_of([tuple(order.index(face) for face in shape[place]) for place in order])
            back = [[(hole[0],) + tuple(sent_back(order, part) for part in hole[1:]) for hole in told]
                    for told in holes]
            turned = [sent_back(order, lifts[order.index(place)]) for place in range(len(shape))]
            self.assertIs(book_by_hand(shape, back, turned), True)
            self.assertIs(book_holds(shape, back, turned), True)

    def test_rounds_turned_round(self):
        for shape in (EXAMPLE, BOTTLE, PLANE, TETRA[:14], wound_disc(6), wound_ball(4)):
            holes, lifts = papers_of(shape)
            turned = [[(hole[0],) + tuple(added((-1, part)) for part in hole[1:]) for hole in told] for told in holes]
            self.assertIs(book_holds(shape, turned, lifts), True)
            for k in range(4):
                for i, (order, loop, gauge, filling) in enumerate(holes[k]):
                    for part in (1, 2, 3):
                        other = copy.deepcopy(holes)
                        hole = list(other[k][i])
                        hole[part] = added((-1, hole[part]))
                        other[k][i] = tuple(hole)
                        wanted = part == 3 and order == 0
                        self.assertIs(book_holds(shape, other, lifts), wanted)

    def test_rounds_with_a_border_more(self):
        chance = random.Random(298)
        for shape in (EXAMPLE, TETRA[:14], MIXED, TETRA, FORTY, side_by_side(TETRA, LOOP)):
            holes, lifts = papers_of(shape)
            for k in range(3):
                if not holes[k] or any(hole[0] for hole in holes[k]):
                    continue
                more = chain_at(chance, shape, k + 1)
                other, turned = copy.deepcopy((holes, lifts))
                order, loop, gauge, filling = other[k][0]
                other[k][0] = (order, added((1, loop), (1, border_by_hand(shape, more))), gauge, filling)
                for place, number in gauge.items():
                    turned[place] = added((1, turned[place]), (-number, more))
                self.assertIs(book_holds(shape, other, turned), True)
                self.assertIs(book_holds(shape, other, lifts), book_by_hand(shape, other, lifts))

    def test_spoilt_papers(self):
        for shape in ([], POINT, LOOP, [(), (), (0, 1)], PLANE, TIGHT, EXAMPLE, BOTTLE, wound_disc(4)):
            holes, lifts = papers_of(shape)
            kept = copy.deepcopy((shape, holes, lifts))
            self.check_spoilt(lambda other: book_holds(shape, other, lifts),
                              lambda other: book_by_hand(shape, other, lifts), holes)
            self.check_spoilt(lambda other: book_holds(shape, holes, other),
                              lambda other: book_by_hand(shape, holes, other), lifts)
            self.assertEqual((shape, holes, lifts), kept)

    def test_each_fault(self):
        good = [[(0, {0: 1}, {0: 1}, {})], [(0, {1: 1}, {1: 1}, {})], [], []]
        self.assertIs(book_holds(LOOP, good, [{}, {}]), True)
        for level_one in (
                [(2, {1: 1}, {1: 1}, {})], [(1, {1: 1}, {1: 1}, {})], [(-2, {1: 1}, {1: 1}, {})], [],
                [(0, {1: 1}, {1: -1}, {})], [(0, {1: 2}, {1: 1}, {})], [(0, {}, {1: 1}, {})], [(0, {1: 1}, {}, {})],
                [(0, {1: 1}, {1: 1}, {1: 1})], [(0, {1: 1}, {1: 1})], [(0, {1: 1}, {1: 1}, {}, {})],
                [[0, {1: 1}, {1: 1}, {}]], ((0, {1: 1}, {1: 1}, {}),), [(0, {1: 1}, {1: 1}, {})] * 2,
                [(False, {1: 1}, {1: 1}, {})], [(0, {True: 1}, {1: 1}, {})], [(0, {1: True}, {1: 1}, {})],
                [(0, {1: 1}, {True: 1}, {})], [(0, {1: 1}, {1: True}, {})], [(0, {1: 1}, {1: 1}, [])],
                [(0, {1: 1}, {1: 1}, None)], [(0.0, {1: 1}, {1: 1}, {})], [(0, {1: 1, 0: 1}, {1: 1}, {})],
                [(0, {1: 1}, {1: 1, 0: 1}, {})], [(0, {1: 1, 2: 0}, {1: 1}, {})], [(0, {1: 1.0}, {1: 1}, {})]):
            self.assertIs(book_holds(LOOP, good[:1] + [level_one] + good[2:], [{}, {}]), False, level_one)
        for holes in (tuple(good), good[:3], good + [[]], {0: good[0]}, good[:2] + [{}, []], good[:2] + [(), []],
                      good[:3] + [None], good[::-1]):
            self.assertIs(book_holds(LOOP, holes, [{}, {}]), False)
        for lifts in (({}, {}), [{}], [{}, {}, {}], [{}, None], [{}, []], [{1: 1}, {1: 1}], [{0: 1}, {}], {}, None):
            self.assertIs(book_holds(LOOP, good, lifts), False, lifts)

    def test_lifts_that_others_could_tell(self):
        # The point may be lifted to the loop, since that has no border and is the border of nothing.
        good = [[(0, {0: 1}, {0: 1}, {})], [(0, {1: 1}, {1: 1}, {})], [], []]
        for number in (1, -1, GREAT):
            self.assertIs(book_holds(LOOP, good, [{1: number}, {}]), True)
        self.assertIs(book_holds(LOOP, good, [{1: 0}, {}]), False)
        self.assertIs(book_holds(LOOP, good, [{1: True}, {}]), False)

    def test_orders_that_are_none(self):
        # All lines hold for these, but 1 and numbers below 0 are no orders.
        solid = [(), (0, 0), (1, 1, 1)]
        point = [(0, {0: 1}, {0: 1}, {})]
        self.assertIs(book_holds(solid, [point, [], [], []], [{}, {2: 1}, {}]), True)
        self.assertIs(book_holds(solid, [point, [(1, {1: 1}, {1: 1}, {2: 1})], [], []], [{}, {}, {}]), False)
        for order in (2, 3, 5):
            holes, lifts = papers_of(wound_disc(order))
            told, loop, gauge, filling = holes[1][0]
            holes[1] = [(-order, loop, gauge, added((-1, filling)))]
            self.assertIs(book_holds(wound_disc(order), holes, lifts), False)

    def test_gauges_of_twists_with_multiples_more(self):
        # What a gauge has more by the order times any numbers, the lifts have less by so many fillings: then all lines
        # hold but (c), and that, too, where the numbers weigh each round as nothing.
        chance, seen = random.Random(298), {}
        three = side_by_side(wound_disc(2), wound_disc(4), LOOP)
        shapes = (wound_disc(2), wound_disc(12), PLANE, BOTTLE, three, wound_ball(6))
        for shape, k in zip(shapes, (1, 1, 1, 1, 1, 2)):
            for turn in range(40):
                holes, lifts = papers_of(shape)
                spot = chance.randrange(len([hole for hole in holes[k] if hole[0]]))
                order, loop, gauge, filling = holes[k][spot]
                at = [place for place, piece in enumerate(shape) if level(piece) == k]
                more = {place: chance.choice((-2, -1, 1, 5)) for place in chance.sample(at, chance.randint(0, 3) % 3)}
                holes[k][spot] = (order, loop, added((1, gauge), (order, more)), filling)
                for place, number in more.items():
                    lifts[place] = added((1, lifts[place]), (-number, filling))
                weights = [weight(more, hole[1]) for hole in holes[k]]
                wanted = not any(weights)
                self.assertIs(book_holds(shape, holes, lifts), wanted)
                self.assertIs(book_by_hand(shape, holes, lifts), wanted)
                seen[(wanted, bool(more), weights[spot] != 0)] = True
        # Held with and without more; failed by its own round's weight, and by another's alone.
        for case in ((True, True, False), (True, False, False), (False, True, True), (False, True, False)):
            self.assertIn(case, seen)

    def test_orders_that_stand_otherwise(self):
        twice = side_by_side(wound_disc(2), wound_disc(4))
        holes, lifts = papers_of(twice)
        self.assertEqual([hole[0] for hole in holes[1]], [2, 4])
        self.assertIs(book_holds(twice, holes, lifts), True)
        self.assertIs(book_holds(twice, holes[:1] + [holes[1][::-1]] + holes[2:], lifts), False)
        same = side_by_side(wound_disc(3), wound_disc(3))
        holes, lifts = papers_of(same)
        self.assertIs(book_holds(same, holes[:1] + [holes[1][::-1]] + holes[2:], lifts), True)
        both = side_by_side(wound_disc(3), LOOP)
        holes, lifts = papers_of(both)
        self.assertEqual([hole[0] for hole in holes[1]], [3, 0])
        self.assertIs(book_holds(both, holes[:1] + [holes[1][::-1]] + holes[2:], lifts), False)
        # Two orders without a common divisor are told as one.
        six = side_by_side(wound_disc(2), wound_disc(3))
        (two, two_lifts), (three, three_lifts) = papers_of(wound_disc(2)), papers_of(wound_disc(3))
        many = len(wound_disc(2))
        moved = [[(hole[0],) + tuple({place + many: number for place, number in part.items()} for part in hole[1:])
                  for hole in told] for told in three]
        lifts = two_lifts + [{place + many: number for place, number in lift.items()} for lift in three_lifts]
        self.assertIs(book_holds(six, [one + other for one, other in zip(two, moved)], lifts), False)

    def test_any_thing(self):
        for shape in ([], POINT, LOOP, EXAMPLE):
            holes, lifts = papers_of(shape)
            for thing in ANY_THINGS:
                self.assertIs(book_holds(shape, thing, lifts), book_by_hand(shape, thing, lifts))
                self.assertIs(book_holds(shape, holes, thing), book_by_hand(shape, holes, thing))
                self.assertIs(book_holds(shape, thing, thing), False)
        self.assertIs(book_holds([], [[], [], [], []], []), True)
        self.assertIs(book_holds([], ([], [], [], []), []), False)
        self.assertIs(book_holds([], [[], [], [], []], ()), False)
        thing = [[], [], []]
        thing.append(thing)
        self.assertIs(book_holds([], thing, []), False)

    def test_another_shape(self):
        holes, lifts = papers_of(EXAMPLE)
        for place in range(len(EXAMPLE)):
            self.assertIs(book_holds(EXAMPLE[:place], holes, lifts), False)
        self.assertIs(book_holds(BOTTLE, holes, lifts), False)
        self.assertIs(book_holds(EXAMPLE + [()], holes, lifts + [{}]), False)

    def test_very_great_numbers(self):
        holes, lifts = papers_of(LOOP)
        holes[1] = [(0, {1: GREAT}, {1: 1}, {})]
        self.assertIs(book_holds(LOOP, holes, lifts), False)
        loops = [(0, {1: 1, 2: -GREAT}, {1: 1}, {}), (0, {2: 1}, {1: GREAT, 2: 1}, {})]
        two = [[(0, {0: 1}, {0: 1}, {})], loops, [], []]
        self.assertIs(book_holds([(), (0, 0), (0, 0)], two, [{}, {}, {}]), True)
        two[1][1][2][1] = GREAT + 1
        self.assertIs(book_holds([(), (0, 0), (0, 0)], two, [{}, {}, {}]), False)


def growth_papers(shape, prime):
    growth = Growth(prime)
    for piece in shape:
        growth.grow(piece)
    return [growth.paper(place) for place in range(len(shape))]


class TestGrowthHolds(LookCase):
    def test_what_the_program_tells(self):
        for shape in [shape for shape, counts, twists in KNOWN] + all_shapes(299, 3):
            for prime in (2, 3, 5, 97):
                papers = growth_papers(shape, prime)
                kept = copy.deepcopy((shape, papers))
                self.assertIs(growth_holds(shape, prime, papers), True)
                self.assertEqual((shape, papers), kept)

    def test_each_prime(self):
        for prime in PRIMES:
            papers = growth_papers(wound_disc(6), prime)
            self.assertIs(growth_holds(wound_disc(6), prime, papers), True)
            for other in PRIMES:
                wanted = growth_by_hand(wound_disc(6), other, papers)
                self.assertIs(growth_holds(wound_disc(6), other, papers), wanted)

    def test_what_others_could_tell(self):
        # To a paper that ends no hole, or a later one, another paper may be added that ends none.
        chance = random.Random(300)
        found = 0
        for shape in [TETRA, EXAMPLE, MIXED, FORTY] + grown_shapes(300, 2):
            for prime in (2, 3, 7):
                papers = growth_papers(shape, prime)
                for turn in range(10):
                    place = chance.randrange(len(shape))
                    below = [p for p in range(place) if level(shape[p]) == level(shape[place])]
                    if below:
                        other = list(papers)
                        more = papers[chance.choice(below)]
                        other[place] = counted_by(prime, added((1, papers[place]), (chance.randrange(prime), more)))
                        wanted = growth_by_hand(shape, prime, other)
                        self.assertIs(growth_holds(shape, prime, other), wanted)
                        found += wanted and other != papers
        self.assertGreater(found, 50)

    def test_spoilt_papers(self):
        for shape in ([], POINT, LOOP, [(), (), (0, 1)], [(), (), (), (1, 0), (2, 1), (2, 0)], PLANE, EXAMPLE, TIGHT):
            for prime in (2, 3, 5):
                papers = growth_papers(shape, prime)
                kept = copy.deepcopy((shape, papers))
                self.check_spoilt(lambda other: growth_holds(shape, prime, other),
                                  lambda other: growth_by_hand(shape, prime, other), papers)
                self.assertEqual((shape, papers), kept)

    def test_each_fault(self):
        shape = [(), (), (), (1, 0), (2, 1), (2, 0)]
        good = growth_papers(shape, 3)
        self.assertEqual(good[5], {5: 1, 4: 2, 3: 2})
        for place, paper in ((0, {}), (0, {0: 2}), (0, {0: 1, 1: 1}), (1, {0: 1}), (5, {5: 1}),
                             (5, {5: 1, 4: -1, 3: 2}), (5, {5: 2, 4: 1, 3: 1}), (5, {5: 1, 4: 2, 3: 2, 0: 1}),
                             (5, {5: 1, 4: 5, 3: 2}),
                             (5, {5: 1, 4: 2, 3: 0}), (5, {5: True, 4: 2, 3: 2}), (0, {False: 1}), (1, {True: 1}),
                             (5, {5: 4, 4: 2, 3: 2}), (5, [(5, 1)]), (5, None), (5, {5: 1, 4: 2, 3: 2, 6: 1}),
                             (5, {5: 1, 4: 2, 3: 2, -1: 1}), (4, {4: 1, 5: 1}), (5, {5.0: 1, 4: 2, 3: 2})):
            papers = copy.deepcopy(good)
            papers[place] = paper
            self.assertIs(growth_holds(shape, 3, papers), False, (place, paper))
        for papers in (tuple(good), good[:-1], good + [{}], good[::-1], dict(enumerate(good)), None, [], "x"):
            self.assertIs(growth_holds(shape, 3, papers), False)

    def test_two_that_end_the_same_one(self):
        shape = [(), (), (1, 0), (1, 0)]
        for prime in (2, 3, 5):
            less = prime - 1
            self.assertIs(growth_holds(shape, prime, [{0: 1}, {1: 1}, {2: 1}, {3: 1}]), False)
            self.assertIs(growth_holds(shape, prime, [{0: 1}, {1: 1}, {2: 1}, {3: 1, 2: less}]), True)
            self.assertIs(growth_holds(shape, prime, [{0: 1}, {1: 1, 0: 1}, {2: 1}, {3: 1, 2: less}]), True)
            self.assertIs(growth_holds(shape, prime, [{0: 1}, {1: 1, 0: less}, {2: 1}, {3: 1}]), False)

    def test_any_thing(self):
        for shape in ([], POINT, LOOP, EXAMPLE):
            for thing in ANY_THINGS:
                self.assertIs(growth_holds(shape, 2, thing), growth_by_hand(shape, 2, thing))
        self.assertIs(growth_holds([], 2, []), True)
        self.assertIs(growth_holds([], 2, ()), False)
        self.assertIs(growth_holds([], 2, {}), False)
        thing = []
        thing.append(thing)
        self.assertIs(growth_holds(POINT, 2, thing), False)


if __name__ == "__main__":
    unittest.main()
