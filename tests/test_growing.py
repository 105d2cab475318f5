"""Points 24 and 25: growths, their papers, and the holes that are alive."""

import copy
import random
import unittest

from holebook.errors import NoLevel, NoPiece, NoPrime, NoShape, NoStage
from holebook.growing import Growth
from tests.makers import GREAT, KNOWN, all_shapes, grown, grown_shapes, level, side_by_side, wound_ball, wound_disc
from tests.samples import EXAMPLE, FORTY, LOOP, MIXED, POINT, SHAPES, TETRA, TIGHT, odd_things
from tests.test_borders import border_by_hand
from tests.test_holes import NO_LEVELS
from tests.test_primes import NO_PRIMES, PRIMES
from tests.test_shapes import MISFITS

# Of EXAMPLE these are neither places nor stages; None is no stage either, but stands for that of all pieces.
NO_STAGES = [thing for thing in odd_things() if thing is not None] + [-1, -6, 7, 40, GREAT, -GREAT, "", "0", (), (0,),
                                                                      [], [0]]
NO_PLACES = NO_STAGES + [6, None]
SOME_PRIMES = (2, 3, 5, 7, 97)


def growth_of(shape, prime=2):
    growth = Growth(prime)
    for piece in shape:
        growth.grow(piece)
    return growth


def all_told(growth):
    many = len(growth.shape())
    return copy.deepcopy((growth.shape(), growth.pairs(), [growth.paper(place) for place in range(many)],
                          [[growth.alive(k, stage) for stage in range(many + 1)] for k in range(4)]))


def counted_by(prime, chain):
    return {place: number % prime for place, number in chain.items() if number % prime}


def rank_by(prime, rows):
    """The rank of a table where numbers are counted by the prime."""
    rows, rank = [[number % prime for number in row] for row in rows], 0
    for j in range(len(rows[0]) if rows else 0):
        pivot = next((i for i in range(rank, len(rows)) if rows[i][j]), None)
        if pivot is None:
            continue
        rows[rank], rows[pivot] = rows[pivot], rows[rank]
        over = pow(rows[rank][j], -1, prime)
        for i in range(rank + 1, len(rows)):
            by = rows[i][j] * over
            rows[i] = [(one - by * other) % prime for one, other in zip(rows[i], rows[rank])]
        rank += 1
    return rank


def pairs_by_ranks(shape, prime):
    """The pairs that are forced, told by ranks of corners of the table of all borders."""
    many = len(shape)
    table = [[border_by_hand(shape, {high: 1}).get(low, 0) for high in range(many)] for low in range(many)]
    ranks = [[rank_by(prime, [row[:j] for row in table[i:]]) for j in range(many + 1)] for i in range(many + 1)]
    ended = {}
    for i in range(many):
        for j in range(many):
            if ranks[i][j + 1] - ranks[i + 1][j + 1] - ranks[i][j] + ranks[i + 1][j] == 1:
                ended[i] = j
    enders = list(ended.values())
    return [(place, ended.get(place)) for place in range(many) if place not in enders]


class GrowthCase(unittest.TestCase):
    def check(self, growth, prime, shape, told):
        """What grow told of each piece, and the papers, against the words of the points."""
        self.assertEqual(growth.shape(), shape)
        self.assertEqual(len(told), len(shape))
        ended = {}
        for place, piece in enumerate(shape):
            paper = growth.paper(place)
            self.assertIs(type(paper), dict)
            for key, number in paper.items():
                self.assertEqual((type(key), type(number)), (int, int))
                self.assertTrue(0 <= key <= place and 1 <= number < prime)
                self.assertEqual(level(shape[key]), level(piece))
            self.assertEqual(paper[place], 1)
            edge = counted_by(prime, border_by_hand(shape, paper))
            self.assertEqual(told[place], max(edge) if edge else None)
            if edge:
                self.assertNotIn(max(edge), ended)
                ended[max(edge)] = place
        births = [place for place in range(len(shape)) if told[place] is None]
        self.assertLessEqual(set(ended), set(births))
        pairs = [(birth, ended.get(birth)) for birth in births]
        self.assertEqual(growth.pairs(), pairs)
        self.assertEqual([type(thing) for thing in growth.pairs()], [tuple] * len(pairs))
        self.assertIs(type(growth.pairs()), list)
        self.check_alive(growth, shape, pairs)

    def check_alive(self, growth, shape, pairs):
        for k in range(4):
            for stage in range(len(shape) + 1):
                wanted = sum(level(shape[birth]) == k and birth < stage and (end is None or end >= stage)
                             for birth, end in pairs)
                self.assertEqual(growth.alive(k, stage), wanted)
            self.assertEqual(growth.alive(k), growth.alive(k, len(shape)))
            self.assertEqual(growth.alive(k, None), growth.alive(k, len(shape)))
            self.assertEqual(growth.alive(k, stage=0), 0)
            self.assertIs(type(growth.alive(k)), int)


class TestGrow(GrowthCase):
    def test_the_example(self):
        growth = Growth(2)
        self.assertEqual([growth.grow(piece) for piece in EXAMPLE], [None, None, None, None, 3, None])
        self.assertEqual(growth.pairs(), [(0, None), (1, None), (2, None), (3, 4), (5, None)])
        self.assertEqual([growth.alive(k) for k in range(4)], [1, 2, 1, 0])
        self.assertEqual([growth.alive(1, stage) for stage in range(7)], [0, 0, 1, 2, 3, 2, 2])

    def test_two_without_a_prime(self):
        twisted = wound_disc(2)
        self.assertEqual(growth_of(twisted).pairs(), growth_of(twisted, 2).pairs())
        one, other = Growth(), Growth(prime=3)
        for piece in twisted:
            one.grow(piece)
            other.grow(piece)
        self.assertEqual((one.alive(1), other.alive(1)), (1, 0))

    def test_twists_hang_on_the_prime(self):
        for order in (2, 3, 4, 6, 15, 35):
            for prime in PRIMES:
                growth = growth_of(wound_disc(order), prime)
                bears = int(order % prime == 0)
                self.assertEqual([growth.alive(k) for k in range(4)], [1, bears, bears, 0])
                growth = growth_of(wound_ball(order), prime)
                self.assertEqual([growth.alive(k) for k in range(4)], [1, 0, bears, bears])

    def test_shapes_and_primes(self):
        shapes = [shape for shape, counts, twists in KNOWN] + all_shapes(241, 3)
        for shape in shapes:
            for prime in SOME_PRIMES:
                growth = Growth(prime)
                told = [growth.grow(piece) for piece in shape]
                self.check(growth, prime, shape, told)

    def test_each_prime(self):
        twisted = side_by_side(wound_disc(6), wound_ball(10), EXAMPLE)
        for prime in PRIMES:
            growth = Growth(prime)
            told = [growth.grow(piece) for piece in twisted]
            self.check(growth, prime, twisted, told)

    def test_each_stage(self):
        for shape in (EXAMPLE, MIXED, TETRA, wound_disc(6)):
            for prime in (2, 3, 5):
                growth, told = Growth(prime), []
                self.check(growth, prime, [], [])
                for many, piece in enumerate(shape):
                    told.append(growth.grow(piece))
                    self.check(growth, prime, shape[:many + 1], told)

    def test_the_forced_pairs(self):
        chance = random.Random(242)
        shapes = [EXAMPLE, MIXED, TIGHT, TETRA, LOOP, [], wound_disc(3), wound_disc(4), wound_ball(3)]
        shapes += [grown(chance, 14, mix) for mix in ((3, 6, 3, 1), (1, 3, 5, 5), (1, 2, 2, 9)) for turn in range(3)]
        for shape in shapes:
            for prime in (2, 3, 7):
                self.assertEqual(growth_of(shape, prime).pairs(), pairs_by_ranks(shape, prime))

    def test_a_paper_of_several_pieces(self):
        # The third side joins nothing new, so its paper goes all the way round.
        shape = [(), (), (), (1, 0), (2, 1), (2, 0)]
        for prime in SOME_PRIMES:
            growth = growth_of(shape, prime)
            self.assertEqual(growth.paper(5), {5: 1, 4: prime - 1, 3: prime - 1})
            self.assertEqual(growth.pairs(), [(0, None), (1, 3), (2, 4), (5, None)])

    def test_no_primes(self):
        for thing in NO_PRIMES:
            with self.assertRaises(NoPrime):
                Growth(thing)
            with self.assertRaises(NoPrime):
                Growth(prime=thing)

    def test_what_does_not_fit(self):
        for pieces, place in MISFITS:
            growth = growth_of(pieces[:place], 3)
            wanted = all_told(growth)
            for turn in range(2):
                with self.assertRaises(NoPiece) as caught:
                    growth.grow(pieces[place])
                self.assertEqual(caught.exception.place, place)
            self.assertEqual(all_told(growth), wanted)

    def test_any_thing(self):
        for shape in ([], POINT, EXAMPLE, FORTY):
            growth = growth_of(shape)
            wanted = all_told(growth)
            for thing in odd_things() + [0, "", "p", [], [0, 0], (0,), (0, 99), (-1, -1), (True, True), (0, None),
                                         (1, 1, 1, 1, 1), (False, 0), ((), ())]:
                with self.assertRaises(NoPiece) as caught:
                    growth.grow(thing)
                self.assertEqual(caught.exception.place, len(shape))
            self.assertEqual(all_told(growth), wanted)

    def test_forty(self):
        growth = growth_of(FORTY, 5)
        wanted = all_told(growth)
        for turn in range(2):
            for piece in ((), (0, 0), (7, 5, 4), (13, 12, 11, 10)):
                with self.assertRaises(NoShape):
                    growth.grow(piece)
            for thing in (None, (0,), (0, 40), (0, 4)):
                with self.assertRaises(NoPiece) as caught:
                    growth.grow(thing)
                self.assertEqual(caught.exception.place, 40)
        self.assertEqual(all_told(growth), wanted)
        growth.take_back()
        self.assertIs(growth.grow((0, 0)), None)
        with self.assertRaises(NoShape):
            growth.grow(())


class TestTakeBack(GrowthCase):
    def test_all_the_way_and_again(self):
        for shape in (EXAMPLE, TETRA, MIXED, wound_disc(6), []):
            for prime in (2, 3):
                growth = growth_of(shape, prime)
                for turn in range(2):
                    for many in range(len(shape) - 1, -1, -1):
                        self.assertEqual(growth.take_back(), shape[many])
                        self.assertEqual(all_told(growth), all_told(growth_of(shape[:many], prime)))
                    told = [growth.grow(piece) for piece in shape]
                    self.check(growth, prime, shape, told)

    def test_other_pieces_behind_it(self):
        chance = random.Random(251)
        for prime in SOME_PRIMES:
            growth, shape, told = Growth(prime), [], []
            for turn in range(400):
                if shape and chance.random() < 0.45 or len(shape) == 40:
                    self.assertEqual(growth.take_back(), shape.pop())
                    told.pop()
                else:
                    k = chance.randrange(4)
                    below = [place for place, piece in enumerate(shape) if level(piece) == k - 1]
                    piece = tuple(chance.choice(below) for face in range(k + 1)) if k and below else ()
                    try:
                        told.append(growth.grow(piece))
                        shape.append(piece)
                    except NoPiece:
                        pass
                if turn % 20 == 0:
                    self.check(growth, prime, shape, told)
            self.check(growth, prime, shape, told)

    def test_a_hole_that_is_ended_again(self):
        growth = growth_of([(), (0, 0)])
        for turn in range(3):
            self.assertEqual(growth.grow((1, 1, 1)), 1)
            self.assertEqual((growth.pairs(), growth.alive(1)), ([(0, None), (1, 2)], 0))
            self.assertEqual(growth.take_back(), (1, 1, 1))
            self.assertEqual((growth.pairs(), growth.alive(1)), ([(0, None), (1, None)], 1))
        self.assertIs(growth.grow((0, 0)), None)
        self.assertEqual(growth.grow((1, 2, 2)), 1)

    def test_where_there_is_none(self):
        growth = Growth(3)
        for turn in range(2):
            with self.assertRaises(NoStage):
                growth.take_back()
        self.assertIs(growth.grow(()), None)
        self.assertEqual(growth.take_back(), ())
        with self.assertRaises(NoStage):
            growth.take_back()
        self.assertEqual((growth.shape(), growth.pairs()), ([], []))


class TestAsked(GrowthCase):
    def test_no_place_of_a_piece(self):
        growth = growth_of(EXAMPLE)
        for thing in NO_PLACES:
            with self.assertRaises(NoStage):
                growth.paper(thing)
        for thing in NO_PLACES + [0]:
            with self.assertRaises(NoStage):
                Growth().paper(thing)

    def test_a_place_that_was_taken_back(self):
        growth = growth_of(EXAMPLE)
        growth.paper(5)
        growth.take_back()
        with self.assertRaises(NoStage):
            growth.paper(5)
        with self.assertRaises(NoStage):
            growth.alive(0, 6)
        self.assertEqual(growth.alive(0, 5), 1)

    def test_no_levels(self):
        growth = growth_of(EXAMPLE)
        for thing in NO_LEVELS:
            with self.assertRaises(NoLevel):
                growth.alive(thing)
            for stage in (0, 6, 7, True, "x"):
                with self.assertRaises(NoLevel):
                    growth.alive(thing, stage)

    def test_no_stages(self):
        growth = growth_of(EXAMPLE)
        for k in range(4):
            for thing in NO_STAGES:
                with self.assertRaises(NoStage):
                    growth.alive(k, thing)
                with self.assertRaises(NoStage):
                    growth.alive(k, stage=thing)
            for stage in (1, -1, True, False):
                with self.assertRaises(NoStage):
                    Growth().alive(k, stage)
            self.assertEqual((Growth().alive(k), Growth().alive(k, 0)), (0, 0))

    def test_no_level_ahead_of_no_stage(self):
        with self.assertRaises(NoLevel):
            growth_of(EXAMPLE).alive(4, 7)
        with self.assertRaises(NoStage):
            growth_of(EXAMPLE).alive(3, 7)


class TestNothingChanges(GrowthCase):
    def test_told_lists_and_dicts_are_the_askers_own(self):
        for shape in SHAPES + tuple(grown_shapes(252, 1)):
            growth = growth_of(shape, 3)
            wanted = all_told(growth)
            growth.shape().append(())
            growth.shape().clear()
            growth.pairs().append((0, 0))
            growth.pairs().clear()
            for place in range(len(shape)):
                growth.paper(place).clear()
                growth.paper(place)[0] = 9
            self.assertEqual(all_told(growth), wanted)

    def test_what_was_told_stays(self):
        growth = growth_of(EXAMPLE[:4])
        told = (growth.shape(), growth.pairs(), growth.paper(3))
        kept = copy.deepcopy(told)
        for piece in EXAMPLE[4:]:
            growth.grow(piece)
        growth.alive(1)
        self.assertEqual(told, kept)
        for turn in range(6):
            growth.take_back()
        self.assertEqual(told, kept)

    def test_two_growths_beside_one_another(self):
        one, other = Growth(2), Growth(3)
        for piece in wound_disc(6):
            one.grow(piece)
        self.assertEqual((other.shape(), other.pairs()), ([], []))
        wanted = all_told(one)
        for piece in TETRA:
            other.grow(piece)
        other.take_back()
        self.assertEqual(all_told(one), wanted)
        self.assertEqual(all_told(other), all_told(growth_of(TETRA[:14], 3)))


if __name__ == "__main__":
    unittest.main()
