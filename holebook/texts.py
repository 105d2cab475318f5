"""Texts that tell shapes with names."""

from holebook.errors import NoName, NoText
from holebook.shapes import shape_of

LONGEST_NAME = 8


def read(thing):
    rows = rows_of(thing)
    pieces = pieces_of(rows)
    return (shape_of(pieces), [row[0] for row in rows])


def written(shape, names):
    return "; ".join([row_text(names, place, piece) for place, piece in enumerate(shape)])


def row_text(names, place, piece):
    return " ".join([names[place]] + [names[face] for face in piece])


def rows_of(thing):
    if not isinstance(thing, str):
        raise NoText("what tells a shape is a text")
    # Splitting nothing would tell one row without a name, not no rows.
    if len(thing) == 0:
        return []
    rows = [row.split(" ") for row in thing.split("; ")]
    for row in rows:
        if not all([is_name(word) for word in row]):
            raise NoText("a text is rows of names, parted by one blank each, with a ; and a blank between rows")
    return rows


def is_name(word):
    # Python's own islower takes letters beyond a to z, too.
    return 1 <= len(word) <= LONGEST_NAME and all(["a" <= sign <= "z" for sign in word])


def pieces_of(rows):
    spots = {}
    pieces = []
    for place, row in enumerate(rows):
        pieces.append(tuple([spot_of(spots, name) for name in row[1:]]))
        if row[0] in spots:
            raise NoName("two pieces have the same name")
        spots[row[0]] = place
    return pieces


def spot_of(spots, name):
    if name not in spots:
        raise NoName(f"no piece there is called {name}")
    return spots[name]
