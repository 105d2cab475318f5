"""Shapes, chains and tables made by chance from a written seed, the same at each run."""

import random

from tests.samples import SHAPES

GREAT = 10 ** 59 + 7
# How often points, sides, triangles and tetrahedra are tried.
MIXES = ((3, 6, 3, 1), (1, 3, 5, 5), (1, 4, 8, 0), (1, 1, 8, 12), (1, 2, 2, 20))


def level(piece):
    return max(len(piece) - 1, 0)


def agree(shape, faces):
    """The document's own condition on faces, from triangles on."""
    if len(faces) < 3:
        return True
    return all(shape[faces[j]][i] == shape[faces[i]][j - 1] for j in range(len(faces)) for i in range(j))


def grown(chance, many, mix):
    shape = [()]
    while len(shape) < many:
        k = chance.choices(range(4), mix)[0]
        below = [place for place, piece in enumerate(shape) if level(piece) == k - 1]
        faces = tuple(chance.choice(below) for face in range(k + 1)) if k and below else ()
        if len(faces) == (k + 1 if k else 0) and agree(shape, faces):
            shape.append(faces)
    return shape


def grown_shapes(seed, each=4, most=40):
    chance = random.Random(seed)
    return [grown(chance, chance.randint(1, most), mix) for mix in MIXES for turn in range(each)]


def all_shapes(seed, each=4, most=40):
    return list(SHAPES) + grown_shapes(seed, each, most)


def number(chance):
    """A whole number but 0, small or very great, of either sign."""
    most = chance.choice((1, 3, 99, GREAT))
    return chance.choice((-1, 1)) * chance.randint(1, most)


def chain_at(chance, shape, k):
    at = [place for place, piece in enumerate(shape) if level(piece) == k]
    return {place: number(chance) for place in chance.sample(at, chance.randint(0, len(at)))}


def table(chance, height, width, most):
    return [[chance.randint(-most, most) for j in range(width)] for i in range(height)]


def tables(seed, most_lines=7, each=3):
    """Pairs of a table and its width, of many sizes and many kinds of numbers."""
    chance = random.Random(seed)
    told = []
    for height in range(most_lines + 1):
        for width in range(most_lines + 1):
            for most in (1, 3, 30, GREAT)[:each + 1]:
                told.append((table(chance, height, width, most), width))
    return told


def matrix_product(one, other, width):
    """The product, reckoned number by number as the document tells it."""
    return [[sum(row[k] * other[k][j] for k in range(len(other))) for j in range(width)] for row in one]


def one_table(size):
    return [[int(i == j) for j in range(size)] for i in range(size)]
