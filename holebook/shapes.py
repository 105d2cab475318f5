"""Shapes: lists of pieces in which each piece fits behind those ahead of it."""

from holebook.errors import NoLevel, NoPiece, NoShape
from holebook.pieces import called_by, fits, level_of
from holebook.wholes import is_whole_below

MOST_PIECES = 40
LEVELS = 4


def is_shape(thing):
    return is_list_of_few(thing) and first_misfit(thing) is None


def shape_of(thing):
    if not is_list_of_few(thing):
        raise NoShape(f"a shape is a list of at most {MOST_PIECES} pieces")
    misfit = first_misfit(thing)
    if misfit is not None:
        raise NoPiece(misfit)
    return list(thing)


def check_size(pieces):
    if len(pieces) > MOST_PIECES:
        raise NoShape(f"a shape has at most {MOST_PIECES} pieces")


def is_list_of_few(thing):
    return isinstance(thing, list) and len(thing) <= MOST_PIECES


def first_misfit(pieces):
    for place, piece in enumerate(pieces):
        if not fits(pieces[:place], piece):
            return place
    return None


def places(shape, k):
    check_level(k, LEVELS)
    return places_of_level(shape, k)


def check_level(k, bound):
    if not is_whole_below(k, bound):
        raise NoLevel(f"a level here is a whole number from 0 on and below {bound}")


def places_of_level(shape, k):
    return [place for place, piece in enumerate(shape) if level_of(piece) == k]


def left_with(shape, kept):
    spots = spots_of(kept)
    return [called_by(spots, shape[old]) for old in kept]


def spots_of(things):
    return dict([(thing, place) for place, thing in enumerate(things)])


def corners(shape, place):
    faces = shape[place]
    if level_of(faces) == 0:
        return [place]
    return corners(shape, faces[-1]) + corners(shape, faces[0])[-1:]


def count_of(shape):
    return [len(places(shape, k)) for k in range(LEVELS)]


def balance(shape):
    counts = count_of(shape)
    return counts[0] - counts[1] + counts[2] - counts[3]
