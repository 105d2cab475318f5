"""Pieces: points, sides, triangles and tetrahedra, told by the places of their faces."""

from holebook.wholes import is_whole_below

FACE_COUNTS = (0, 2, 3, 4)


def level_of(piece):
    return max(len(piece) - 1, 0)


def fits(shape, thing):
    if not isinstance(thing, tuple) or len(thing) not in FACE_COUNTS:
        return False
    level = level_of(thing)
    if not all([is_place_of_level(shape, face, level - 1) for face in thing]):
        return False
    # The faces of a side are points, which have no faces that could disagree.
    return level < 2 or faces_agree(shape, thing)


def is_place_of_level(shape, thing, level):
    return is_whole_below(thing, len(shape)) and level_of(shape[thing]) == level


def faces_agree(shape, faces):
    for j in range(len(faces)):
        for i in range(j):
            if shape[faces[j]][i] != shape[faces[i]][j - 1]:
                return False
    return True


def called_by(spots, piece):
    # The same piece, its faces called by the places that spots tells for their old ones.
    return tuple([spots[face] for face in piece])


def moved(piece, many):
    return tuple([many + face for face in piece])
