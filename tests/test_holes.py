"""Points 17 to 19, and what point 3 says of a book."""

import copy
import random
import unittest

from holebook.errors import NoChain, NoLevel, NoRound, NoShape
from holebook.holes import Book
from tests.makers import (GREAT, KNOWN, all_shapes, chain_at, diagonal_numbers, grown_shapes, level, reordered,
                          side_by_side, wound_ball, wound_disc)
from tests.samples import EXAMPLE, FORTY, LOOP, MIXED, POINT, TETRA, TIGHT, odd_things
from tests.test_borders import NO_CHAINS, border_by_hand
from tests.test_shapes import MISFITS, NO_LISTS

NO_LEVELS = odd_things() + [-1, 4, 5, 40, GREAT, -GREAT, "", "0", "1", (), (1,), [], [1]]
TWISTED = side_by_side(wound_disc(4), wound_disc(6), wound_ball(3))
SHAPES = [shape for shape, counts, twists in KNOWN] + [TWISTED]


def added(*parts):
    """The sum of pairs of a number and a chain."""
    told = {}
    for by, chain in parts:
        for place, number in chain.items():
            told[place] = told.get(place, 0) + by * number
    return {place: number for place, number in told.items() if number}


def weight(gauge, chain):
    return sum(number * chain.get(place, 0) for place, number in gauge.items())


def orders(shape):
    """The orders of the holes of each level, from the numbers of the border tables' diagonals."""
    at = [[place for place, piece in enumerate(shape) if level(piece) == k] for k in range(5)]
    numbers = [[]]
    for k in range(1, 5):
        rows = [[border_by_hand(shape, {high: 1}).get(low, 0) for high in at[k]] for low in at[k - 1]]
        numbers.append(diagonal_numbers(rows))
    return [[number for number in numbers[k + 1] if number > 1]
            + [0] * (len(at[k]) - len(numbers[k]) - len(numbers[k + 1])) for k in range(4)]


class BookCase(unittest.TestCase):
    def check_kinds(self, book, shape):
        self.assertEqual(book.shape(), shape)
        for k in range(4):
            told = book.holes(k)
            self.assertIs(type(told), list)
            for hole in told:
                self.assertEqual([type(part) for part in hole], [int, dict, dict, dict])
                self.assertIs(type(hole), tuple)
                self.check_chain(shape, k, hole[1])
                self.check_chain(shape, k, hole[2])
                self.check_chain(shape, k + 1, hole[3])
                if hole[0] == 0:
                    self.assertEqual(hole[3], {})
            found = [hole[0] for hole in told]
            twists = [order for order in found if order]
            self.assertEqual(found, twists + [0] * (len(found) - len(twists)))
            self.assertTrue(all(order > 1 for order in twists))
            self.assertTrue(all(other % one == 0 for one, other in zip(twists, twists[1:])))
            self.assertEqual((book.twists(k), book.count(k)), (twists, len(found) - len(twists)))
            self.assertEqual((type(book.twists(k)), type(book.count(k))), (list, int))
        for place, piece in enumerate(shape):
            self.assertIs(type(book.lift(place)), dict)
            self.check_chain(shape, level(piece) + 1, book.lift(place))

    def check_chain(self, shape, k, chain):
        for place, number in chain.items():
            self.assertEqual((type(place), type(number)), (int, int))
            self.assertEqual(level(shape[place]), k)
            self.assertNotEqual(number, 0)

    def check_holes(self, book, shape):
        """Lines (a) to (d) of point 18."""
        for k in range(4):
            told = book.holes(k)
            for i, (order, loop, gauge, filling) in enumerate(told):
                self.assertEqual(border_by_hand(shape, loop), {})
                self.assertEqual(border_by_hand(shape, filling), added((order, loop)))
                self.assertEqual([weight(gauge, hole[1]) for hole in told], [int(i == j) for j in range(len(told))])
                for place, piece in enumerate(shape):
                    if level(piece) == k + 1:
                        over = weight(gauge, border_by_hand(shape, {place: 1}))
                        self.assertEqual(over % order if order else over, 0)

    def check_pieces(self, book, shape):
        """Line (e) of point 18."""
        for place, piece in enumerate(shape):
            k, edge = level(piece), border_by_hand(shape, {place: 1})
            parts = [(gauge.get(place, 0), loop) for order, loop, gauge, filling in book.holes(k)]
            for order, loop, gauge, filling in book.holes(k - 1) if k else ():
                if order:
                    self.assertEqual(weight(gauge, edge) % order, 0)
                    parts.append((weight(gauge, edge) // order, filling))
            parts.append((1, border_by_hand(shape, book.lift(place))))
            parts += [(number, book.lift(face)) for face, number in edge.items()]
            self.assertEqual(added(*parts), {place: 1})

    def all_told(self, book):
        many = range(len(book.shape()))
        return (book.shape(), [(book.holes(k), book.twists(k), book.count(k)) for k in range(4)],
                [book.lift(place) for place in many])

    def check(self, shape):
        handed = list(shape)
        book = Book(handed)
        self.assertEqual(handed, shape)
        self.check_kinds(book, shape)
        self.check_holes(book, shape)
        self.check_pieces(book, shape)
        self.assertEqual([[hole[0] for hole in book.holes(k)] for k in range(4)], orders(shape))
        return book


class TestBook(BookCase):
    def test_known_shapes(self):
        for shape, counts, twists in KNOWN:
            book = self.check(shape)
            self.assertEqual(tuple(book.count(k) for k in range(4)), counts)
            self.assertEqual(tuple(book.twists(k) for k in range(4)), twists)

    def test_shapes_by_chance(self):
        for shape in all_shapes(171, 12):
            self.check(shape)

    def test_each_beginning_of_a_shape(self):
        for shape in (EXAMPLE, TETRA, MIXED, TWISTED):
            for many in range(len(shape) + 1):
                self.check(shape[:many])

    def test_discs_and_balls_wound_about(self):
        for order in list(range(2, 20)) + [255, 256, 1000, 511]:
            self.assertEqual(self.check(wound_disc(order)).twists(1), [order])
        for order in list(range(2, 20)) + [255, 256, 1000]:
            self.assertEqual(self.check(wound_ball(order)).twists(2), [order])

    def test_the_order_of_the_pieces(self):
        chance = random.Random(172)
        for shape in SHAPES + grown_shapes(172, 3):
            wanted = [(Book(shape).count(k), Book(shape).twists(k)) for k in range(4)]
            for turn in range(2):
                other = reordered(chance, shape)
                book = self.check(other)
                self.assertEqual([(book.count(k), book.twists(k)) for k in range(4)], wanted)

    def test_pieces_that_stand_there_twice(self):
        for shape in (LOOP, EXAMPLE, TETRA, TIGHT, wound_disc(5)):
            for piece in shape:
                self.check(shape + [piece])
                self.check(shape + [piece] * 3)

    def test_no_lesser_multiple_is_a_border(self):
        for shape, k, order in ((wound_disc(6), 1, 6), (wound_ball(4), 2, 4), (wound_disc(9), 1, 9)):
            book = Book(shape)
            loop = book.holes(k)[0][1]
            for by in range(-order, 2 * order + 1):
                self.assertEqual(book.told(k, added((by, loop)))[0], [by % order])

    def test_what_is_no_shape(self):
        things = NO_LISTS + [tuple(EXAMPLE), [()] * 41, FORTY + [()], [None], [[]]]
        for thing in things + [thing for thing, place in MISFITS]:
            with self.assertRaises(NoShape):
                Book(thing)
        for thing in odd_things():
            with self.assertRaises(NoShape):
                Book([(), thing])
        thing = [()]
        thing.append(thing)
        with self.assertRaises(NoShape):
            Book(thing)

    def test_what_is_refused_stays_and_can_be_asked_again(self):
        thing = [(), (0, 1)]
        for turn in range(2):
            with self.assertRaises(NoShape):
                Book(thing)
            self.assertEqual(thing, [(), (0, 1)])
        thing.insert(1, ())
        self.assertEqual(Book(thing).count(0), 1)


class TestTold(BookCase):
    def check_told(self, book, k, chain):
        shape, kept = book.shape(), dict(chain)
        told = book.told(k, chain)
        self.assertEqual(chain, kept)
        self.assertIs(type(told), tuple)
        numbers, rest = told
        self.assertEqual((type(numbers), type(rest)), (list, dict))
        self.check_chain(shape, k + 1, rest)
        holes = book.holes(k)
        self.assertEqual([type(number) for number in numbers], [int] * len(holes))
        for number, hole in zip(numbers, holes):
            self.assertTrue(hole[0] == 0 or 0 <= number < hole[0])
        parts = [(number, hole[1]) for number, hole in zip(numbers, holes)]
        self.assertEqual(added((1, border_by_hand(shape, rest)), *parts), chain)
        return numbers

    def test_sums_of_rounds_and_borders(self):
        chance = random.Random(191)
        for shape in SHAPES + grown_shapes(191, 5):
            book = Book(shape)
            for k in range(4):
                holes = book.holes(k)
                for most in (0, 1, 9, 10 ** 60):
                    numbers = [chance.randint(-most, most) for hole in holes]
                    edge = border_by_hand(shape, chain_at(chance, shape, k + 1))
                    chain = added((1, edge), *[(number, hole[1]) for number, hole in zip(numbers, holes)])
                    wanted = [number % hole[0] if hole[0] else number for number, hole in zip(numbers, holes)]
                    self.assertEqual(self.check_told(book, k, chain), wanted)

    def test_borders_have_noughts_alone(self):
        chance = random.Random(192)
        for shape in SHAPES + grown_shapes(192, 3):
            book = Book(shape)
            for k in range(4):
                edge = border_by_hand(shape, chain_at(chance, shape, k + 1))
                self.assertEqual(set(self.check_told(book, k, edge)) - {0}, set())

    def test_nothing(self):
        for shape in SHAPES:
            book = Book(shape)
            for k in range(4):
                self.assertEqual(self.check_told(book, k, {}), [0] * len(book.holes(k)))

    def test_pieces_that_are_rounds(self):
        for shape in SHAPES:
            book = Book(shape)
            for place, piece in enumerate(shape):
                if border_by_hand(shape, {place: 1}) == {}:
                    for by in (1, -1, 12, 10 ** 60, -10 ** 6000):
                        self.check_told(book, level(piece), {place: by})

    def test_a_loop(self):
        book = Book(LOOP)
        sign = book.holes(1)[0][1][1]
        self.assertEqual(book.told(1, {1: GREAT}), ([sign * GREAT], {}))
        self.assertEqual(book.told(0, {0: -3})[1], {})

    def test_what_was_told_handed_in_again(self):
        book = Book(TWISTED)
        for k in range(4):
            for order, loop, gauge, filling in book.holes(k):
                self.check_told(book, k, loop)
                self.check_told(book, k, border_by_hand(TWISTED, filling))
                self.check_told(book, k, added((10 ** 7000, loop)))


class TestRefused(BookCase):
    def test_no_levels(self):
        for shape in ([], POINT, EXAMPLE):
            book = Book(shape)
            for thing in NO_LEVELS:
                for ask in (book.holes, book.count, book.twists):
                    with self.assertRaises(NoLevel):
                        ask(thing)
                with self.assertRaises(NoLevel):
                    book.told(thing, {})

    def test_no_level_ahead_of_no_chain(self):
        book = Book(EXAMPLE)
        for k in NO_LEVELS:
            for chain in (None, {99: 1}, {0: 0}, {4: 1}, {1: 1}):
                with self.assertRaises(NoLevel):
                    book.told(k, chain)

    def test_no_chains(self):
        book = Book(TIGHT)
        for k in range(4):
            for thing in NO_CHAINS:
                with self.assertRaises(NoChain):
                    book.told(k, thing)
            for place in range(4):
                if place != k:
                    with self.assertRaises(NoChain):
                        book.told(k, {place: 1})

    def test_no_chain_ahead_of_no_round(self):
        book = Book(TETRA)
        for k, chain in ((0, {4: 1}), (2, {4: 1}), (1, {10: 1}), (3, {10: 1}), (1, {4: 1, 10: 1}), (1, {4: 1, 5: 0}),
                         (1, {4: True}), (1, {4: 1, "5": 1})):
            with self.assertRaises(NoChain):
                book.told(k, chain)

    def test_no_rounds(self):
        book = Book(TETRA)
        for k, chain in ((1, {4: 1}), (1, {4: GREAT, 5: -1}), (2, {10: 1}), (2, {10: 1, 11: 1}), (3, {14: -2})):
            for turn in range(2):
                kept = dict(chain)
                with self.assertRaises(NoRound) as caught:
                    book.told(k, chain)
                self.assertEqual(caught.exception.edge, border_by_hand(TETRA, chain))
                self.assertEqual(chain, kept)
                caught.exception.edge.clear()

    def test_no_rounds_by_chance(self):
        chance = random.Random(193)
        for shape in grown_shapes(193, 3):
            book = Book(shape)
            for k in range(4):
                chain = chain_at(chance, shape, k)
                edge = border_by_hand(shape, chain)
                if edge:
                    with self.assertRaises(NoRound) as caught:
                        book.told(k, chain)
                    self.assertEqual(caught.exception.edge, edge)
                else:
                    book.told(k, chain)

    def test_a_book_is_as_before_behind_refusals(self):
        book = Book(TWISTED)
        wanted = self.all_told(book)
        for k, chain in ((4, {}), (True, {}), (1, None), (1, {0: 1}), (1, {1: 0})):
            with self.assertRaises((NoLevel, NoChain)):
                book.told(k, chain)
        self.assertEqual(self.all_told(book), wanted)


class TestNothingChanges(BookCase):
    def test_the_same_at_each_asking(self):
        for shape in SHAPES:
            book = Book(shape)
            wanted = self.all_told(book)
            for k in range(4):
                for hole in book.holes(k):
                    book.told(k, hole[1])
            self.assertEqual(self.all_told(book), wanted)

    def test_told_lists_and_dicts_are_the_askers_own(self):
        for shape in (LOOP, EXAMPLE, TETRA, TWISTED, []):
            book = Book(shape)
            wanted = copy.deepcopy(self.all_told(book))
            for k in range(4):
                told = book.holes(k)
                for hole in told:
                    for part in hole[1:]:
                        part[0] = 99
                        part.pop(next(iter(part)))
                        part[1000] = 1
                told.append(None)
                book.twists(k).append(7)
                numbers, rest = book.told(k, {})
                numbers.append(4)
                rest[5] = 5
                self.assertEqual(book.told(k, {}), ([0] * (len(numbers) - 1), {}))
            for place in range(len(shape)):
                book.lift(place)[0] = 77
            book.shape().append(())
            self.assertEqual(self.all_told(book), wanted)

    def test_what_is_done_to_what_was_handed_in_changes_nothing(self):
        handed = list(EXAMPLE)
        book = Book(handed)
        wanted = copy.deepcopy(self.all_told(book))
        handed.append(())
        handed[4] = (1, 1, 1)
        self.assertEqual(self.all_told(book), wanted)
        handed.clear()
        self.assertEqual(self.all_told(book), wanted)
        chain = {1: 5}
        told = book.told(1, chain)
        kept = copy.deepcopy(told)
        chain[1] = 9
        self.assertEqual(told, kept)
        with self.assertRaises(NoChain):
            book.told(0, {6: 1})

    def test_two_books_beside_one_another(self):
        one, other = Book(EXAMPLE), Book(TWISTED)
        wanted = copy.deepcopy((self.all_told(one), self.all_told(other)))
        one.holes(1)[0][1].clear()
        other.lift(3).clear()
        self.assertEqual((self.all_told(one), self.all_told(other)), wanted)


if __name__ == "__main__":
    unittest.main()
