"""Whole numbers: what counts as one."""


def is_whole(thing):
    # Python takes a truth for an int; here it stands for no number.
    return isinstance(thing, int) and not isinstance(thing, bool)


def is_whole_below(thing, bound):
    return is_whole(thing) and 0 <= thing < bound
