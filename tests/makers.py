"""Shapes, chains and tables made by chance from a written seed, the same at each run."""

import random

from tests.samples import EXAMPLE, SHAPES, TETRA

GREAT = 10 ** 59 + 7
# How often points, sides, triangles and tetrahedra are tried.
MIXES = ((3, 6, 3, 1), (1, 3, 5, 5), (1, 4, 8, 0), (1, 1, 8, 12), (1, 2, 2, 20))


def level(piece):
    return max(len(piece) - 1, 0)


def agree(shape, faces):
    """The document's own condition on faces, from triangles on."""
    if len(faces) < 3:
        return True
    return all(shape[faces[j]][i] == shape[faces[i]][j - 1] for j in range(len(faces)) for i in range(j))


def grown(chance, many, mix):
    shape = [()]
    while len(shape) < many:
        k = chance.choices(range(4), mix)[0]
        below = [place for place, piece in enumerate(shape) if level(piece) == k - 1]
        faces = tuple(chance.choice(below) for face in range(k + 1)) if k and below else ()
        if len(faces) == (k + 1 if k else 0) and agree(shape, faces):
            shape.append(faces)
    return shape


def grown_shapes(seed, each=4, most=40):
    chance = random.Random(seed)
    return [grown(chance, chance.randint(1, most), mix) for mix in MIXES for turn in range(each)]


def all_shapes(seed, each=4, most=40):
    return list(SHAPES) + grown_shapes(seed, each, most)


def number(chance):
    """A whole number but 0, small or very great, of either sign."""
    most = chance.choice((1, 3, 99, GREAT))
    return chance.choice((-1, 1)) * chance.randint(1, most)


def chain_at(chance, shape, k):
    at = [place for place, piece in enumerate(shape) if level(piece) == k]
    return {place: number(chance) for place in chance.sample(at, chance.randint(0, len(at)))}


def table(chance, height, width, most):
    return [[chance.randint(-most, most) for j in range(width)] for i in range(height)]


def tables(seed, most_lines=7, each=3):
    """Pairs of a table and its width, of many sizes and many kinds of numbers."""
    chance = random.Random(seed)
    told = []
    for height in range(most_lines + 1):
        for width in range(most_lines + 1):
            for most in (1, 3, 30, GREAT)[:each + 1]:
                told.append((table(chance, height, width, most), width))
    return told


def matrix_product(one, other, width):
    """The product, reckoned number by number as the document tells it."""
    return [[sum(row[k] * other[k][j] for k in range(len(other))) for j in range(width)] for row in one]


def one_table(size):
    return [[int(i == j) for j in range(size)] for i in range(size)]


def diagonal_table(numbers, height, width):
    return [[numbers[i] if i == j and i < len(numbers) else 0 for j in range(width)] for i in range(height)]


def stirred(chance, rows, width, steps):
    """The same table behind turns of rows and of columns; so its diagonal has the same numbers."""
    told = [list(row) for row in rows]
    for step in range(steps):
        if len(told) > 1:
            i, j = chance.sample(range(len(told)), 2)
            by = chance.randint(-3, 3)
            told[i] = [one + by * other for one, other in zip(told[i], told[j])]
        if width > 1:
            i, j = chance.sample(range(width), 2)
            by = chance.randint(-3, 3)
            for row in told:
                row[i] += by * row[j]
    return told


def diagonal_numbers(rows):
    """The numbers of the diagonal by plain clearing of lines, without any papers; for small tables."""
    left = [list(row) for row in rows]
    told = []
    while any(number for row in left for number in row):
        least = min(abs(number) for row in left for number in row if number)
        i, j = next((i, j) for i, row in enumerate(left) for j, number in enumerate(row) if abs(number) == least)
        pivot = left[i]
        for other in left:
            if other is not pivot:
                by = other[j] // pivot[j]
                other[:] = [one - by * two for one, two in zip(other, pivot)]
        for column in range(len(pivot)):
            if column != j:
                by = pivot[column] // pivot[j]
                for row in left:
                    row[column] -= by * row[j]
        if any(row[j] for row in left if row is not pivot) or sum(map(bool, pivot)) > 1:
            continue
        rough = [row for row in left if any(number % least for number in row)]
        if rough:
            pivot[:] = [one + two for one, two in zip(pivot, rough[0])]
            continue
        told.append(least)
        left = [row[:j] + row[j + 1:] for row in left if row is not pivot]
    return told


def with_multiple(shape, by, add):
    """Adds pieces until there is one that stands for `by` times the hole at hand, and tells its place."""
    first = place = add(shape, None, None)
    for figure in bin(by)[3:]:
        place = add(shape, place, place)
        if figure == "1":
            place = add(shape, place, first)
    return place


def wound_disc(order):
    """A disc whose rim goes so many times round one loop: a twist of level 1."""
    def add(shape, one, other):
        shape.append((0, 0))
        if one is not None:
            shape.append((one, len(shape) - 1, other))
            return len(shape) - 2
        return len(shape) - 1
    shape = [()]
    last = with_multiple(shape, order, add)
    return shape + [(last, last, last)]


def wound_ball(order):
    """The same one level higher: all triangles lie on one loop, and their differences are wound about."""
    def add(shape, one, other):
        shape.append((1, 1, 1))
        if one is not None:
            shape.append((one, 2, other, len(shape) - 1))
            return len(shape) - 2
        return len(shape) - 1
    shape = [(), (0, 0), (1, 1, 1)]
    last = with_multiple(shape, order, add)
    return shape + [(last, 2, 2, 2)]


def side_by_side(*shapes):
    told = []
    for shape in shapes:
        many = len(told)
        told += [tuple(face + many for face in piece) for piece in shape]
    return told


def reordered(chance, shape):
    """The same pieces in another order, each behind its faces."""
    left, new = list(range(len(shape))), {}
    while left:
        ready = [place for place in left if all(face in new for face in shape[place])]
        new[chance.choice(ready)] = len(new)
        left = [place for place in left if place not in new]
    return [tuple(new[face] for face in shape[old]) for old in sorted(new, key=new.get)]


def glued_by_hand(shape, pairs):
    """The lots that must become one, as sets, by going over all until nothing is left to do."""
    lots = [{place} for place in range(len(shape))]
    left = list(pairs)
    while left:
        one, other = left.pop()
        left += zip(shape[one], shape[other])
        mine, theirs = (next(lot for lot in lots if place in lot) for place in (one, other))
        if mine is not theirs:
            lots = [lot for lot in lots if lot is not mine and lot is not theirs] + [mine | theirs]
    lots.sort(key=min)
    spots = [next(i for i, lot in enumerate(lots) if place in lot) for place in range(len(shape))]
    return [tuple(spots[face] for face in shape[min(lot)]) for lot in lots], spots


def pairs_to_glue(chance, shape, many):
    alike = [(one, other) for one in range(len(shape)) for other in range(len(shape))
             if level(shape[one]) == level(shape[other])]
    return [chance.choice(alike) for pair in range(many)] if alike else []


def part_by_hand(shape, places):
    kept = sorted(set(places))
    for step in range(3):
        kept = sorted(set(kept) | {face for place in kept for face in shape[place]})
    return [tuple(kept.index(face) for face in shape[place]) for place in kept], kept


def some_maps(seed, each=3, most=40):
    """Triples of a map, the shape it leads from and the one it leads to."""
    chance = random.Random(seed)
    told = []
    for shape in all_shapes(seed, each, most):
        told.append((list(range(len(shape))), shape, shape))
        other, spots = glued_by_hand(shape, pairs_to_glue(chance, shape, chance.randint(1, 6)))
        told.append((spots, shape, other))
        less, kept = part_by_hand(shape, [place for place in range(len(shape)) if chance.random() < 0.3])
        told.append((kept, less, shape))
    return told


# Each shape with the counts and the twists of its four levels.
KNOWN = (
    ([], (0, 0, 0, 0), ([], [], [], [])),
    ([()], (1, 0, 0, 0), ([], [], [], [])),
    ([()] * 40, (40, 0, 0, 0), ([], [], [], [])),
    ([(), (0, 0)], (1, 1, 0, 0), ([], [], [], [])),
    ([(), (), (0, 1)], (1, 0, 0, 0), ([], [], [], [])),
    ([(), (), (0, 1), (0, 1), (1, 0)], (1, 2, 0, 0), ([], [], [], [])),
    ([()] + [(0, 0)] * 39, (1, 39, 0, 0), ([], [], [], [])),
    (EXAMPLE, (1, 2, 1, 0), ([], [], [], [])),
    # The Klein bottle and the projective plane.
    ([(), (0, 0), (0, 0), (0, 0), (1, 3, 2), (3, 2, 1)], (1, 1, 0, 0), ([], [2], [], [])),
    ([(), (0, 0), (0, 0), (1, 2, 1), (2, 2, 2)], (1, 0, 0, 0), ([], [2], [], [])),
    (TETRA, (1, 0, 0, 0), ([], [], [], [])),
    (TETRA[:14], (1, 0, 1, 0), ([], [], [], [])),
    (TETRA[:10], (1, 3, 0, 0), ([], [], [], [])),
    (TETRA + TETRA[14:], (1, 0, 0, 1), ([], [], [], [])),
    (TETRA[:14] + TETRA[10:14], (1, 0, 5, 0), ([], [], [], [])),
    ([(), (0, 0), (1, 1, 1), (2, 2, 2, 2)], (1, 0, 0, 1), ([], [], [], [])),
    (wound_disc(2), (1, 0, 0, 0), ([], [2], [], [])),
    (wound_disc(3), (1, 0, 0, 0), ([], [3], [], [])),
    (wound_disc(2 ** 17 + 1), (1, 0, 0, 0), ([], [2 ** 17 + 1], [], [])),
    (wound_ball(2), (1, 0, 0, 0), ([], [], [2], [])),
    (wound_ball(360), (1, 0, 0, 0), ([], [], [360], [])),
    (side_by_side(wound_disc(4), wound_disc(6)), (2, 0, 0, 0), ([], [2, 12], [], [])),
    (side_by_side(wound_disc(4), wound_disc(2), wound_disc(8)), (3, 0, 0, 0), ([], [2, 4, 8], [], [])),
    (side_by_side(wound_disc(6), wound_ball(4), wound_ball(6)), (3, 0, 0, 0), ([], [6], [2, 12], [])),
    (side_by_side(EXAMPLE, wound_disc(2), wound_disc(3), TETRA[:14]), (4, 2, 2, 0), ([], [6], [], [])),
)
