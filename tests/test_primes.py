"""Of point 24 what a prime is, and what it is to count by one."""

import random
import unittest

from holebook.primes import is_prime, turned_over
from tests.makers import GREAT
from tests.samples import odd_things

PRIMES = [2, 3, 5, 7, 11, 13, 17, 19, 23, 29, 31, 37, 41, 43, 47, 53, 59, 61, 67, 71, 73, 79, 83, 89, 97]
# The whole numbers from -3 to 120 that are none, and things of other kinds.
NO_PRIMES = [number for number in range(-3, 121) if number not in PRIMES] + odd_things() + [
    127, 997, 2 ** 61 - 1, GREAT, -GREAT, -2, -97, "", "2", "97", (), (2,), [], [2], [3, 5], {2: 3}, 2.0, 3.0]


class TestIsPrime(unittest.TestCase):
    def test_each_number(self):
        self.assertEqual([number for number in range(-3, 121) if is_prime(number)], PRIMES)
        for number in range(-3, 121):
            self.assertIs(is_prime(number), number in PRIMES)

    def test_any_thing(self):
        for thing in NO_PRIMES:
            self.assertIs(is_prime(thing), False)


class TestTurnedOver(unittest.TestCase):
    def check(self, number, prime):
        told = turned_over(number, prime)
        self.assertIs(type(told), int)
        self.assertTrue(1 <= told < prime)
        self.assertEqual(told * number % prime, 1)

    def test_each_rest(self):
        for prime in PRIMES:
            for number in range(1, prime):
                self.check(number, prime)
            self.assertEqual(turned_over(1, prime), 1)
            self.assertEqual(turned_over(-1, prime), prime - 1)

    def test_below_nought_and_beyond_the_prime(self):
        for prime in PRIMES:
            for number in range(-3 * prime, 3 * prime):
                if number % prime:
                    self.check(number, prime)
                    self.assertEqual(turned_over(number, prime), turned_over(number % prime, prime))

    def test_very_great_numbers(self):
        chance = random.Random(241)
        for prime in PRIMES:
            for most in (10 ** 9, 10 ** 60, 10 ** 6000):
                number = chance.randint(-most, most)
                self.check(number if number % prime else number + 1, prime)
                number = chance.randint(1, most) * prime
                self.check(number + 1, prime)
                self.check(-number - 1, prime)


if __name__ == "__main__":
    unittest.main()
