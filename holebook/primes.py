"""Prime numbers, and what it is to count by one."""

from holebook.wholes import is_whole_below, shared_divisor

PRIME_BOUND = 98


def is_prime(thing):
    if not is_whole_below(thing, PRIME_BOUND) or thing < 2:
        return False
    return all([thing % number != 0 for number in range(2, thing)])


def turned_over(number, prime):
    return shared_divisor(number, prime)[1] % prime


def counted(chain, prime):
    return dict([(place, number % prime) for place, number in chain.items() if number % prime != 0])
