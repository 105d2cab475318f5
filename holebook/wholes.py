"""Whole numbers: what counts as one, and the greatest divisor of two."""


def is_whole(thing):
    # Python takes a truth for an int; here it stands for no number.
    return isinstance(thing, int) and not isinstance(thing, bool)


def is_whole_below(thing, bound):
    return is_whole(thing) and 0 <= thing < bound


def shared_divisor(one, other):
    # Told as (divisor, a, b) with a * one + b * other being the divisor, which is never below 0.
    last = (one, 1, 0)
    now = (other, 0, 1)
    while now[0] != 0:
        quotient = last[0] // now[0]
        rest = tuple([old - quotient * new for old, new in zip(last, now)])
        last = now
        now = rest
    if last[0] < 0:
        return tuple([-number for number in last])
    return last
