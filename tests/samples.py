"""Shapes and odd things that several tests hand in."""


class Prickly:
    """A thing that fails at whatever is asked of it."""

    def fail(self, *rest):
        raise RuntimeError("touched")

    __eq__ = __ne__ = __lt__ = __le__ = __gt__ = __ge__ = fail
    __hash__ = __bool__ = __len__ = __iter__ = __getitem__ = __contains__ = fail
    __index__ = __int__ = __str__ = __repr__ = __add__ = __sub__ = fail


# No tuple, no list, no text and no whole number is among these.
ODD = (None, True, False, 1.0, 0.5, float("nan"), 1j, b"p", {}, {0: 1}, set(), {0}, frozenset(),
       range(2), iter(()), object(), object, len, Prickly)


def odd_things():
    return list(ODD) + [Prickly()]


POINT = [()]
LOOP = [(), (0, 0)]
# The document's own example, p; a p p; b p p; c p p; t a c b; u b c a
EXAMPLE = [(), (0, 0), (0, 0), (0, 0), (1, 3, 2), (2, 3, 1)]
# One piece of each level, each with but one face, again and again.
TIGHT = [(), (0, 0), (1, 1, 1), (2, 2, 2, 2)]
# Pieces of unlike levels in a mixed order.
MIXED = [(), (0, 0), (), (0, 2), (1, 1, 1), (2, 0), (), (4, 4, 4, 4), (1, 3, 3), (2, 2), ()]
# A whole tetrahedron: points 0 to 3, sides 01 02 03 12 13 23, triangles 012 013 023 123.
TETRA = [(), (), (), (),
         (1, 0), (2, 0), (3, 0), (2, 1), (3, 1), (3, 2),
         (7, 5, 4), (8, 6, 4), (9, 6, 5), (9, 8, 7),
         (13, 12, 11, 10)]
FORTY = TETRA + [()] * 10 + [(0, 1)] * 10 + [(7, 5, 4)] * 4 + [()]

SHAPES = ([], POINT, LOOP, EXAMPLE, TIGHT, MIXED, TETRA, FORTY)
