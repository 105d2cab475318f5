"""Point 8: texts that tell shapes with names."""

import unittest

from holebook.errors import HoleError, NoName, NoPiece, NoShape, NoText
from holebook.texts import read, written
from tests.samples import EXAMPLE, FORTY, SHAPES, TETRA, odd_things

EXAMPLE_TEXT = "p; a p p; b p p; c p p; t a c b; u b c a"
LETTERS = "abcdefghijklmnopqrstuvwxyz"


def name_at(place):
    """Unlike names of one to eight letters."""
    return LETTERS[place % 26] + LETTERS[place // 26] * (place % 8)


def names_for(shape):
    return [name_at(place) for place in range(len(shape))]


def points_text(many):
    return "; ".join(name_at(place) for place in range(many))


NO_TEXTS = (
    " ", "  ", ";", "; ", " ;", ";;", "; ;", "\n", "\t",
    " p", "p ", "p  ", "p;", "p; ", "; p", ";p", " ; p", "p;q", "p ; q", "p;  q", "p; q ", "p; q;", "p; q; ",
    "p;; q", "p; ; q", "p,q", "p, q", "p.", "p:q",
    "p; a p  p", "p; a  p p", "p; a p p ", "p; a\tp p", "p;\ta p p", "p;\na p p", "p\n; a p p", "p\n", "\np",
    "p; a p p\n", "p; a p\np", "p\r\n", "p;\u00a0q", "p; a\u00a0p p", "p;\u2003q", "p\u2028", "p\x00", "p\x0b",
    "P", "pQ", "p; A p p", "p; a p P", "p1", "1", "0", "p; a p 0", "p; a 0 0", "a_b", "_", "a-b", "p=q",
    "`", "{", "a{", "a`",
    "\u00e4", "p\u00e9", "\u0430", "\u03b1", "\u00df", "\u00aa", "\uff41", "\ud800", "\U0001d41a", "p; a p \u0440",
    "abcdefghi", "abcdefghij", "p; abcdefghi p p", "p; a p abcdefghi",
)

NO_NAMES = (
    "p; p", "p; q; p", "p; a p p; a p p", "p; p p p", "p; q; r; q p p",
    "a p p", "a a a", "p; a p q", "p; a q p", "p; a a p", "p; a p p; t a b a", "p; a p q; q", "a p p; p",
    "q p", "abcdefgh abcdefgh", "p; a p pp",
)

# Each with the place of the first piece that does not fit.
NO_PIECES = (
    ("p; a p", 1),
    ("p; a p p p p p", 1),
    ("p; a p p p", 1),
    ("p; a p p; b a p", 2),
    ("p; a p p; b p p; t a b", 3),
    ("p; q; a p q; t a a a", 3),
    ("p; a p p; t a a a; z t t t a", 3),
    ("p; a p p; t a a a; z t t t t; y z z z z", 4),
    ("p; a p p; t a a a; z t t t t t; y p", 3),
    ("p; a p; b p; c", 1),
)


class TestRead(unittest.TestCase):
    def test_the_example(self):
        self.assertEqual(read(EXAMPLE_TEXT), (EXAMPLE, ["p", "a", "b", "c", "t", "u"]))

    def test_the_kinds(self):
        told = read(EXAMPLE_TEXT)
        self.assertIs(type(told), tuple)
        self.assertIsInstance(told[0], list)
        self.assertIsInstance(told[1], list)

    def test_the_text_without_signs(self):
        self.assertEqual(read(""), ([], []))

    def test_one_point(self):
        self.assertEqual(read("p"), ([()], ["p"]))

    def test_faces_in_their_order(self):
        self.assertEqual(read("p; q; a p q; b q p"), ([(), (), (0, 1), (1, 0)], ["p", "q", "a", "b"]))

    def test_a_tetrahedron(self):
        text = "p; q; r; s; pq q p; pr r p; ps s p; qr r q; qs s q; rs s r; " \
               "pqr qr pr pq; pqs qs ps pq; prs rs ps pr; qrs rs qs qr; all qrs prs pqs pqr"
        names = ["p", "q", "r", "s", "pq", "pr", "ps", "qr", "qs", "rs", "pqr", "pqs", "prs", "qrs", "all"]
        self.assertEqual(read(text), (TETRA, names))

    def test_names_of_one_to_eight_letters(self):
        for many in range(1, 9):
            name = "abcdefgh"[:many]
            self.assertEqual(read(name), ([()], [name]))
            self.assertEqual(read(f"z; {name} z z"), ([(), (0, 0)], ["z", name]))
            self.assertEqual(read(f"{name}; zz {name} {name}"), ([(), (0, 0)], [name, "zz"]))

    def test_every_small_letter(self):
        for letter in LETTERS:
            self.assertEqual(read(letter), ([()], [letter]))

    def test_a_name_that_begins_another(self):
        self.assertEqual(read("p; pp; a pp p"), ([(), (), (1, 0)], ["p", "pp", "a"]))


class TestRefused(unittest.TestCase):
    def refuse(self, error, thing):
        with self.assertRaises(error, msg=repr(thing)) as caught:
            read(thing)
        self.assertIs(type(caught.exception), error)
        return caught.exception

    def test_what_is_no_text(self):
        for thing in odd_things() + [0, 1, -1, (), ("p",), [], ["p"], [()], EXAMPLE, (EXAMPLE, ["p"])]:
            with self.assertRaises(HoleError) as caught:
                read(thing)
            self.assertIs(type(caught.exception), NoText)

    def test_texts_not_so_made(self):
        for text in NO_TEXTS:
            self.refuse(NoText, text)

    def test_every_other_sign(self):
        for number in list(range(0x250)) + [0x131, 0x17f, 0x212a, 0xff5a]:
            sign = chr(number)
            if sign not in LETTERS:
                self.refuse(NoText, sign)
                self.refuse(NoText, "p; q" + sign)
                self.refuse(NoText, sign + "p; q")
                if sign != " ":
                    self.refuse(NoText, "p; a p" + sign + "p")

    def test_names(self):
        for text in NO_NAMES:
            self.refuse(NoName, text)

    def test_more_than_forty_pieces(self):
        self.assertEqual(read(points_text(40)), ([()] * 40, names_for([()] * 40)))
        for many in (41, 42, 100):
            self.refuse(NoShape, points_text(many))

    def test_pieces_that_do_not_fit(self):
        for text, place in NO_PIECES:
            self.assertEqual(self.refuse(NoPiece, text).place, place)

    def test_a_misfit_at_the_last_place(self):
        text = points_text(39) + "; zzzz " + name_at(0)
        self.assertEqual(self.refuse(NoPiece, text).place, 39)

    def test_no_text_ahead_of_all(self):
        for text in NO_NAMES + tuple(text for text, place in NO_PIECES) + (points_text(41),):
            self.refuse(NoText, text + ";")
            self.refuse(NoText, text + "; Q")
            self.refuse(NoText, text + "; zz p  p")
            self.refuse(NoText, text + "; abcdefghi")

    def test_no_name_ahead_of_no_shape(self):
        self.refuse(NoName, points_text(41) + "; " + name_at(0))
        self.refuse(NoName, points_text(41) + "; zzzz zzz zzz")
        self.refuse(NoName, "zzzz zzz zzz; " + points_text(41))

    def test_no_name_ahead_of_no_piece(self):
        for text, place in NO_PIECES:
            self.refuse(NoName, text + "; p")
            self.refuse(NoName, text + "; x w w")

    def test_no_shape_ahead_of_no_piece(self):
        self.refuse(NoShape, points_text(40) + "; zzzz " + name_at(0))
        self.refuse(NoShape, "zzzz; zzzzz zzzz; " + points_text(40))

    def test_what_is_refused_can_be_asked_again(self):
        handed = ["p"]
        for turn in range(2):
            self.refuse(NoText, handed)
            self.assertEqual(handed, ["p"])
            self.refuse(NoName, "p; p")
            self.assertEqual(read("p"), ([()], ["p"]))


class TestWritten(unittest.TestCase):
    def test_the_example(self):
        self.assertEqual(written(EXAMPLE, ["p", "a", "b", "c", "t", "u"]), EXAMPLE_TEXT)

    def test_small_ones(self):
        self.assertEqual(written([], []), "")
        self.assertEqual(written([()], ["p"]), "p")
        self.assertEqual(written([(), (), (1, 0)], ["p", "q", "abcdefgh"]), "p; q; abcdefgh q p")

    def test_there_and_back(self):
        for shape in SHAPES:
            names = names_for(shape)
            text = written(shape, names)
            self.assertEqual(read(text), (shape, names))
            self.assertEqual(written(*read(text)), text)
        self.assertEqual(len(read(written(FORTY, names_for(FORTY)))[0]), 40)


class TestNothingChanges(unittest.TestCase):
    def test_what_is_handed_in_stays(self):
        shape, names = list(TETRA), names_for(TETRA)
        written(shape, names)
        self.assertEqual((shape, names), (TETRA, names_for(TETRA)))

    def test_told_lists_are_the_askers_own(self):
        for text in ("", "p", EXAMPLE_TEXT):
            shape, names = read(text)
            wanted = (list(shape), list(names))
            shape.append(())
            names.insert(0, "x")
            self.assertEqual(read(text), wanted)


if __name__ == "__main__":
    unittest.main()
