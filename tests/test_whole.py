"""Point 3: what is promised over the whole."""

import random
import unittest

from holebook.collapsing import away, bent, core
from holebook.cones import cone
from holebook.growing import Growth
from holebook.holes import Book
from holebook.looks import book_holds, growth_holds
from tests.makers import KNOWN, grown_shapes, reordered, side_by_side, wound_ball, wound_disc
from tests.samples import EXAMPLE, FORTY, MIXED, TETRA, TIGHT
from tests.test_cones import flat_shapes
from tests.test_holes import orders
from tests.test_primes import PRIMES

SHAPES = [shape for shape, counts, twists in KNOWN] + [MIXED, FORTY]
TWISTED = (side_by_side(wound_disc(6), wound_ball(10)), side_by_side(wound_ball(21), wound_disc(49)),
           wound_disc(2 * 3 * 5 * 7), wound_ball(97), wound_disc(97 * 2))


def counts_of(shape):
    book = Book(shape)
    return [(book.count(k), book.twists(k)) for k in range(4)]


def orders_told(shape):
    book = Book(shape)
    return [[hole[0] for hole in book.holes(k)] for k in range(4)]


def alive_by(holes, prime):
    """How many holes are alive at each level, as the orders that a book tells have it."""
    told = []
    for k in range(4):
        told.append(sum(order == 0 for order in holes[k]) + sum(order > 0 and order % prime == 0 for order in holes[k])
                    + sum(order > 0 and order % prime == 0 for order in (holes[k - 1] if k else [])))
    return told


class TestTheWhole(unittest.TestCase):
    def test_the_order_of_the_pieces(self):
        chance = random.Random(31)
        for shape in SHAPES + grown_shapes(31, 3):
            wanted = counts_of(shape)
            self.assertEqual([twists + [0] * count for count, twists in wanted], orders(shape))
            for turn in range(2):
                self.assertEqual(counts_of(reordered(chance, shape)), wanted)

    def test_a_bent_pair_taken_away(self):
        seen = 0
        for shape in SHAPES + grown_shapes(32, 4) + [cone(shape) for shape in flat_shapes(32)]:
            wanted = counts_of(shape)
            for pair in bent(shape):
                self.assertEqual(counts_of(away(shape, pair)[0]), wanted)
                seen += 1
            self.assertEqual(counts_of(core(shape)[0]), wanted)
        self.assertGreater(seen, 50)

    def test_the_holes_alive_at_each_stage(self):
        shapes = [EXAMPLE, TETRA, MIXED, TIGHT, wound_disc(4), wound_ball(6)] + list(TWISTED) + grown_shapes(33, 1)
        for shape in shapes:
            growths = [Growth(prime) for prime in PRIMES]
            for piece in shape:
                for growth in growths:
                    growth.grow(piece)
            for stage in range(len(shape) + 1):
                holes = orders_told(shape[:stage])
                for growth, prime in zip(growths, PRIMES):
                    self.assertEqual([growth.alive(k, stage) for k in range(4)], alive_by(holes, prime))

    def test_each_prime(self):
        for shape in SHAPES:
            holes = orders_told(shape)
            for prime in PRIMES:
                growth = Growth(prime)
                for piece in shape:
                    growth.grow(piece)
                self.assertEqual([growth.alive(k) for k in range(4)], alive_by(holes, prime))

    def test_pieces_taken_back(self):
        for shape in TWISTED + (EXAMPLE, TETRA, MIXED):
            growth = Growth(3)
            for piece in shape:
                growth.grow(piece)
            while growth.shape():
                growth.take_back()
                self.assertEqual([growth.alive(k) for k in range(4)], alive_by(orders_told(growth.shape()), 3))

    def test_all_papers_hold(self):
        for shape in SHAPES + list(TWISTED) + grown_shapes(34, 4):
            book, growth = Book(shape), Growth(7)
            for piece in shape:
                growth.grow(piece)
            many = range(len(shape))
            holes = [book.holes(k) for k in range(4)]
            self.assertIs(book_holds(shape, holes, [book.lift(place) for place in many]), True)
            self.assertIs(growth_holds(shape, 7, [growth.paper(place) for place in many]), True)


if __name__ == "__main__":
    unittest.main()
