"""Parts of shapes, shapes beside one another, and shapes glued along pairs of pieces."""

from holebook.errors import NoGlue
from holebook.pieces import called_by, is_place_of_level, level_of, moved
from holebook.shapes import check_size, left_with
from holebook.wholes import is_whole_below


def part(shape, places):
    if not all([is_whole_below(place, len(shape)) for place in places]):
        raise NoGlue("a part is told by places of the shape")
    kept = with_all_faces(shape, places)
    return (left_with(shape, kept), kept)


def with_all_faces(shape, places):
    wanted = dict([(place, True) for place in places])
    # Faces stand ahead of their pieces, so that on the way down none is wanted too late.
    for place in range(len(shape) - 1, -1, -1):
        if place in wanted:
            for face in shape[place]:
                wanted[face] = True
    return sorted(wanted)


def beside(one, other):
    told = one + [moved(piece, len(one)) for piece in other]
    check_size(told)
    return told


def glued(shape, pairs):
    if not all([is_gluing(shape, pair) for pair in pairs]):
        raise NoGlue("a shape is glued along pairs of places of pieces of the same level")
    firsts = list(range(len(shape)))
    for one, other in pairs:
        firsts = joined(shape, firsts, one, other)
    kept = [place for place, first in enumerate(firsts) if place == first]
    spots = [kept.index(first) for first in firsts]
    return ([called_by(spots, shape[place]) for place in kept], spots)


def is_gluing(shape, thing):
    if not isinstance(thing, tuple) or len(thing) != 2 or not is_whole_below(thing[0], len(shape)):
        return False
    return is_place_of_level(shape, thing[1], level_of(shape[thing[0]]))


def joined(shape, firsts, one, other):
    # Each lot is known by its first place. Where both are in one lot, so are their faces already.
    low = min(firsts[one], firsts[other])
    high = max(firsts[one], firsts[other])
    if low == high:
        return firsts
    told = [low if first == high else first for first in firsts]
    for face, other_face in zip(shape[one], shape[other]):
        told = joined(shape, told, face, other_face)
    return told
