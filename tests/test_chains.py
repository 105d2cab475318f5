"""Point 9: chains, their sums and multiples, and what a gauge weighs."""

import random
import unittest

from holebook.chains import is_chain, plus, times, weigh
from tests.makers import GREAT, all_shapes, chain_at, level, number
from tests.samples import LOOP, MIXED, POINT, SHAPES, TETRA, TIGHT, odd_things

LEVELS = range(5)
NO_NUMBERS = odd_things() + [0, "", "1", (), (1,), [], [1]]
NO_DICTS = [thing for thing in odd_things() if not isinstance(thing, dict)] + [
    0, 1, -1, "", "0", (), (0, 1), ((0, 1),), [], [0], [(0, 1)], [[0, 1]], [{}], [{0: 1}], ({},)]
ODD_KEYS = [None, True, False, "", "0", "1", (), (0,), (0, 1), 0.5, 1j, b"0", frozenset(), object(), len, int]


def random_dict(chance):
    return {place: number(chance) for place in chance.sample(range(8), chance.randint(0, 8))}


class TestIsChain(unittest.TestCase):
    def test_without_keys_at_each_level(self):
        for shape in SHAPES:
            for k in LEVELS:
                self.assertIs(is_chain(shape, k, {}), True)

    def test_one_piece_at_each_level(self):
        for shape in SHAPES:
            for place, piece in enumerate(shape):
                for k in LEVELS:
                    for value in (1, -1, 2, -7, GREAT, -GREAT):
                        self.assertIs(is_chain(shape, k, {place: value}), level(piece) == k)

    def test_several_pieces(self):
        self.assertIs(is_chain(TETRA, 1, {4: 1, 9: -2, 5: GREAT}), True)
        self.assertIs(is_chain(TETRA, 0, {3: 1, 0: -1, 1: 5, 2: 1}), True)
        self.assertIs(is_chain(TETRA, 2, {10: 1, 13: 1}), True)
        self.assertIs(is_chain(TETRA, 3, {14: 10 ** 6000}), True)

    def test_one_of_another_level_among_them(self):
        for k in LEVELS:
            self.assertIs(is_chain(TETRA, k, {4: 1, 3: 1}), False)
            self.assertIs(is_chain(TETRA, k, {14: 1, 13: 1}), False)
            self.assertIs(is_chain(TETRA, k, {0: 1, 14: 1}), False)

    def test_level_four_has_one_alone(self):
        for shape in SHAPES:
            for key in list(range(-1, len(shape) + 1)) + ["0", None, True, ()]:
                self.assertIs(is_chain(shape, 4, {key: 1}), False)

    def test_values_that_are_none(self):
        for thing in NO_NUMBERS:
            self.assertIs(is_chain(TETRA, 1, {4: thing}), False)
            self.assertIs(is_chain(TETRA, 1, {4: 1, 5: thing, 6: 1}), False)
        for k in LEVELS:
            for value in (0, True, False, None, "1", 1.0):
                for place in range(4):
                    self.assertIs(is_chain(TIGHT, k, {place: value}), False)

    def test_keys_that_are_no_places(self):
        for k in LEVELS:
            for shape in SHAPES:
                for key in (-1, -2, -len(shape), len(shape), len(shape) + 1, GREAT, -GREAT):
                    if key != 0 or not shape:
                        self.assertIs(is_chain(shape, k, {key: 1}), False)
            for key in ODD_KEYS:
                self.assertIs(is_chain(TIGHT, k, {key: 1}), False)
                # A dict takes a truth for the 0 or 1 that it has already.
                if key not in (0, 1):
                    self.assertIs(is_chain(TIGHT, k, {k: 1, key: 1}), False)

    def test_truths_in_the_places_they_could_be_taken_for(self):
        self.assertIs(is_chain(LOOP, 0, {0: 1}), True)
        self.assertIs(is_chain(LOOP, 0, {False: 1}), False)
        self.assertIs(is_chain(LOOP, 1, {1: 1}), True)
        self.assertIs(is_chain(LOOP, 1, {True: 1}), False)
        self.assertIs(is_chain(LOOP, 1, {1: True}), False)
        self.assertIs(is_chain(LOOP, 1, {1.0: 1}), False)
        self.assertIs(is_chain([(), ()], 0, {0: 1, True: 1}), False)

    def test_no_dicts(self):
        for thing in NO_DICTS:
            for k in LEVELS:
                self.assertIs(is_chain([], k, thing), False)
                self.assertIs(is_chain(POINT, k, thing), False)

    def test_chains_by_chance(self):
        chance = random.Random(91)
        for shape in all_shapes(91):
            for k in range(4):
                chain = chain_at(chance, shape, k)
                for other in LEVELS:
                    self.assertIs(is_chain(shape, other, chain), other == k or chain == {})


class TestPlus(unittest.TestCase):
    def test_place_by_place(self):
        self.assertEqual(plus({0: 1, 2: 3}, {2: 4, 5: -1}), {0: 1, 2: 7, 5: -1})
        self.assertEqual(plus({}, {}), {})
        self.assertEqual(plus({3: 1}, {}), {3: 1})
        self.assertEqual(plus({}, {3: 1}), {3: 1})

    def test_what_comes_to_nothing_is_left_out(self):
        self.assertEqual(plus({0: 1}, {0: -1}), {})
        self.assertEqual(plus({0: 1, 1: 2}, {1: -2, 0: 1}), {0: 2})
        self.assertEqual(plus({0: GREAT, 1: -GREAT}, {1: GREAT, 0: -GREAT, 9: 1}), {9: 1})

    def test_great_numbers(self):
        self.assertEqual(plus({0: 10 ** 6000}, {0: 1}), {0: 10 ** 6000 + 1})
        self.assertEqual(plus({7: -GREAT}, {7: -GREAT, 8: GREAT}), {7: -2 * GREAT, 8: GREAT})

    def test_by_chance(self):
        chance = random.Random(92)
        for turn in range(300):
            one, other = random_dict(chance), random_dict(chance)
            wanted = {p: one.get(p, 0) + other.get(p, 0) for p in range(8) if one.get(p, 0) + other.get(p, 0)}
            self.assertEqual(plus(one, other), wanted)
            self.assertEqual(plus(other, one), wanted)
            self.assertEqual(plus(wanted, times(-1, other)), one)

    def test_a_dict_with_itself(self):
        one = {0: 1, 4: -3}
        self.assertEqual(plus(one, one), {0: 2, 4: -6})
        self.assertEqual(one, {0: 1, 4: -3})


class TestTimes(unittest.TestCase):
    def test_place_by_place(self):
        self.assertEqual(times(3, {0: 1, 2: -2}), {0: 3, 2: -6})
        self.assertEqual(times(-1, {0: 1, 2: -2}), {0: -1, 2: 2})
        self.assertEqual(times(1, {5: 6}), {5: 6})
        self.assertEqual(times(7, {}), {})

    def test_by_nothing(self):
        self.assertEqual(times(0, {0: 1, 2: -2}), {})
        self.assertEqual(times(0, {}), {})
        self.assertEqual(times(0, {0: GREAT}), {})

    def test_great_numbers(self):
        self.assertEqual(times(GREAT, {1: GREAT, 2: -1}), {1: GREAT * GREAT, 2: -GREAT})
        self.assertEqual(times(-GREAT, {1: 10 ** 5000}), {1: -GREAT * 10 ** 5000})

    def test_by_chance(self):
        chance = random.Random(93)
        for turn in range(200):
            chain, by = random_dict(chance), number(chance)
            self.assertEqual(times(by, chain), {place: by * old for place, old in chain.items()})


class TestWeigh(unittest.TestCase):
    def test_the_places_that_both_have(self):
        self.assertEqual(weigh({0: 1, 2: 3}, {2: 4, 5: -1}), 12)
        self.assertEqual(weigh({0: 1, 2: 3}, {0: -5, 2: 4}), 7)
        self.assertEqual(weigh({0: 1}, {1: 1}), 0)
        self.assertEqual(weigh({0: 1, 1: 1}, {0: 1, 1: -1}), 0)
        self.assertEqual(weigh({}, {1: 1}), 0)
        self.assertEqual(weigh({1: 1}, {}), 0)
        self.assertEqual(weigh({}, {}), 0)

    def test_great_numbers(self):
        self.assertEqual(weigh({3: GREAT, 4: -GREAT}, {3: GREAT, 4: GREAT + 1}), -GREAT)

    def test_it_tells_a_whole_number(self):
        for told in (weigh({}, {}), weigh({0: 1}, {0: 1}), weigh({0: 2}, {})):
            self.assertIs(type(told), int)

    def test_by_chance(self):
        chance = random.Random(94)
        for turn in range(200):
            one, other, third = random_dict(chance), random_dict(chance), random_dict(chance)
            wanted = sum(one.get(place, 0) * other.get(place, 0) for place in range(8))
            self.assertEqual(weigh(one, other), wanted)
            self.assertEqual(weigh(other, one), wanted)
            self.assertEqual(weigh(one, plus(other, third)), wanted + weigh(one, third))


class TestNothingChanges(unittest.TestCase):
    def test_what_is_handed_in_stays(self):
        one, other, shape = {0: 1, 2: 3}, {2: -3, 4: 5}, list(MIXED)
        plus(one, other)
        times(4, one)
        times(0, one)
        weigh(one, other)
        is_chain(shape, 0, one)
        is_chain(shape, 1, other)
        self.assertEqual((one, other, shape), ({0: 1, 2: 3}, {2: -3, 4: 5}, MIXED))

    def test_told_dicts_are_new(self):
        one = {0: 1}
        for told in (plus(one, {}), plus({}, one), times(1, one)):
            self.assertIsNot(told, one)
            told[0] = 9
            told[7] = 7
            self.assertEqual(one, {0: 1})
        for made in (lambda: plus({}, {}), lambda: times(0, one), lambda: times(2, {}), lambda: plus(one, {0: -1})):
            told = made()
            told[5] = 5
            self.assertEqual(made(), {})

    def test_what_is_done_to_what_was_handed_in_changes_nothing_told(self):
        one, other = {0: 1}, {1: 2}
        told = (plus(one, other), times(3, one))
        one[0] = 50
        other.clear()
        self.assertEqual(told, ({0: 1, 1: 2}, {0: 3}))


if __name__ == "__main__":
    unittest.main()
