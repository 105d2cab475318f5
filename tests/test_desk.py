"""Point 30: the desk, row by row."""

import unittest

from holebook.desk import Desk
from holebook.errors import NoGlue, NoName, NoPiece, NoPrime, NoRow, NoShape, NoText
from holebook.growing import Growth
from holebook.holes import Book
from holebook.texts import read, written
from tests.makers import KNOWN, all_shapes
from tests.samples import EXAMPLE, TETRA, odd_things
from tests.test_collapsing import core_by_hand
from tests.test_primes import PRIMES

TORUS = "p; a p p; b p p; c p p; t a c b; u b c a"
BOTTLE = "p; a p p; b p p; c p p; t a c b; u c b a"
TRIANGLE = "p; q; r; a q p; b r q; c r p; t b c a"
PAIR = "p; q; r; s; a q p; b s r"


def names_for(many):
    return [first + second for first in "abcdefg" for second in "abcdefg"][:many]


def desk_with(**texts):
    desk = Desk()
    for name, text in texts.items():
        desk.tell(f"keep {name} {text}")
    return desk


class DeskCase(unittest.TestCase):
    def refused(self, desk, row, kind):
        with self.assertRaises(kind) as caught:
            desk.tell(row)
        self.assertIs(type(caught.exception), kind)
        return caught.exception


class TestKeepAndShow(DeskCase):
    def test_kept_and_shown(self):
        desk = Desk()
        for text, many in ((TORUS, 6), (TRIANGLE, 7), ("p", 1), ("abcdefgh", 1), (BOTTLE, 6)):
            self.assertEqual(desk.tell(f"keep x {text}"), f"kept {many}")
            self.assertEqual(desk.tell("show x"), text)

    def test_without_a_text(self):
        for row in ("keep x", "keep x "):
            desk = desk_with(x=TORUS)
            self.assertEqual(desk.tell(row), "kept 0")
            self.assertEqual(desk.tell("show x"), "")
            self.assertEqual(desk.tell("holes x"), "0 0 0 0")
            self.assertEqual(desk.tell("bars x 2"), "")
            self.assertEqual(desk.tell("core x x"), "kept 0")
            self.assertEqual(desk.tell("drop x"), "dropped")

    def test_anew(self):
        desk = desk_with(x="p; q", y=TORUS)
        self.assertEqual(desk.tell("keep x p"), "kept 1")
        self.assertEqual((desk.tell("show x"), desk.tell("show y")), ("p", TORUS))
        self.assertEqual(desk.tell("show x"), "p")

    def test_names(self):
        desk = Desk()
        for name in ("a", "z", "abcdefgh", "keep", "show", "holes", "core"):
            desk.tell(f"keep {name} {name}")
        for name in ("a", "z", "abcdefgh", "keep", "show", "holes", "core"):
            self.assertEqual(desk.tell(f"show {name}"), name)

    def test_all_shapes(self):
        desk = Desk()
        for shape in all_shapes(301, 2):
            text = written(shape, names_for(len(shape)))
            self.assertEqual(desk.tell(f"keep x {text}"), f"kept {len(shape)}")
            self.assertEqual(desk.tell("show x"), text)

    def test_texts_that_are_refused(self):
        desk = desk_with(x="p; q")
        for text, kind in ((" ", NoText), (" p", NoText), ("p ", NoText), ("p;q", NoText), ("p; ", NoText),
                           (";", NoText), ("P", NoText), ("abcdefghi", NoText), ("p  q", NoText), ("p\n", NoText),
                           ("p; p", NoName), ("p q", NoName), ("p; a p q; P", NoText), ("p; a p q; p", NoName),
                           ("a a", NoName),
                           ("; ".join(names_for(41)), NoShape), ("p; a p", NoPiece), ("p; a p p p", NoPiece),
                           ("p; a p p; t a p a", NoPiece), ("p 1", NoText), ("p=q", NoText)):
            for turn in range(2):
                self.refused(desk, f"keep x {text}", kind)
                self.refused(desk, f"keep y {text}", kind)
            self.assertEqual(desk.tell("show x"), "p; q")
            self.refused(desk, "show y", NoName)
        self.assertEqual(self.refused(desk, "keep x p; a p p; q; b p a; c", NoPiece).place, 3)

    def test_forty(self):
        text = "; ".join(names_for(40))
        desk = Desk()
        self.assertEqual(desk.tell(f"keep x {text}"), "kept 40")
        self.assertEqual(desk.tell("show x"), text)
        self.assertEqual(desk.tell("holes x"), "40 0 0 0")
        self.assertEqual(desk.tell("bars x 2"), text.replace(";", ""))


class TestHoles(DeskCase):
    def test_some(self):
        desk = desk_with(t=TORUS, b=BOTTLE, d=TRIANGLE, p="p", e="p; a p p; b p p; t a b a; u b b b")
        self.assertEqual(desk.tell("holes t"), "1 2 1 0")
        self.assertEqual(desk.tell("holes b"), "1 1+2 0 0")
        self.assertEqual(desk.tell("holes d"), "1 0 0 0")
        self.assertEqual(desk.tell("holes p"), "1 0 0 0")
        self.assertEqual(desk.tell("holes e"), "1 0+2 0 0")

    def test_known_shapes(self):
        desk = Desk()
        for shape, counts, twists in KNOWN:
            desk.tell("keep x " + written(shape, names_for(len(shape))))
            wanted = " ".join("+".join(str(number) for number in [count] + list(more))
                              for count, more in zip(counts, twists))
            self.assertEqual(desk.tell("holes x"), wanted)


class TestBars(DeskCase):
    def test_some(self):
        desk = desk_with(t=TORUS, b=BOTTLE, d=TRIANGLE, p="p")
        self.assertEqual(desk.tell("bars t 2"), "p a b c-t u")
        self.assertEqual(desk.tell("bars b 2"), "p a b c-t u")
        self.assertEqual(desk.tell("bars b 3"), "p a-u b c-t")
        self.assertEqual(desk.tell("bars d 97"), "p q-a r-b c-t")
        self.assertEqual(desk.tell("bars p 2"), "p")

    def test_each_prime(self):
        desk = desk_with(b=BOTTLE)
        names = read(BOTTLE)[1]
        for prime in PRIMES:
            growth = Growth(prime)
            for piece in read(BOTTLE)[0]:
                growth.grow(piece)
            wanted = " ".join(names[birth] if end is None else f"{names[birth]}-{names[end]}"
                              for birth, end in growth.pairs())
            self.assertEqual(desk.tell(f"bars b {prime}"), wanted)

    def test_all_shapes(self):
        desk = Desk()
        for shape in all_shapes(302, 2):
            names = names_for(len(shape))
            desk.tell("keep x " + written(shape, names))
            growth = Growth(3)
            for piece in shape:
                growth.grow(piece)
            wanted = [names[birth] if end is None else f"{names[birth]}-{names[end]}" for birth, end in growth.pairs()]
            self.assertEqual(desk.tell("bars x 3"), " ".join(wanted))

    def test_no_primes(self):
        desk = desk_with(t=TORUS, e="")
        for number in range(1, 100):
            for name in "te":
                if number not in PRIMES:
                    self.refused(desk, f"bars {name} {number}", NoPrime)

    def test_primes_not_so_written(self):
        desk = desk_with(t=TORUS)
        for word in ("0", "00", "02", "03", "002", "100", "101", "127", "-2", "+2", "2.0", "two", "a", "", "2a", "a2",
                     " 2", "2 ", "2\n", "\t2", "\u00b2", "\u0662", "\uff12", "1\u0663", "2_", "0x2"):
            self.refused(desk, f"bars t {word}", NoRow)
            self.refused(desk, f"bars x {word}", NoRow)


class TestCore(DeskCase):
    def test_some(self):
        desk = desk_with(d=TRIANGLE, t=TORUS)
        # The side a and t go first, then p and c, then q and b.
        self.assertEqual(desk.tell("core x d"), "kept 1")
        self.assertEqual(desk.tell("show x"), "r")
        self.assertEqual(desk.tell("show d"), TRIANGLE)
        self.assertEqual(desk.tell("core x t"), "kept 6")
        self.assertEqual(desk.tell("show x"), TORUS)

    def test_old_names(self):
        desk = Desk()
        for shape in all_shapes(303, 3):
            names = names_for(len(shape))
            text = written(shape, names)
            desk.tell(f"keep old {text}")
            left, kept, pairs = core_by_hand(shape)
            self.assertEqual(desk.tell("core new old"), f"kept {len(left)}")
            self.assertEqual(desk.tell("show new"), written(left, [names[place] for place in kept]))
            self.assertEqual(desk.tell("show old"), text)

    def test_onto_itself_and_onto_another(self):
        desk = desk_with(d=TRIANGLE, x=TORUS)
        self.assertEqual(desk.tell("core d d"), "kept 1")
        self.assertEqual((desk.tell("show d"), desk.tell("show x")), ("r", TORUS))
        self.assertEqual(desk.tell("core x d"), "kept 1")
        self.assertEqual((desk.tell("show d"), desk.tell("show x")), ("r", "r"))


class TestGlue(DeskCase):
    def test_some(self):
        desk = desk_with(d=TRIANGLE, s=PAIR)
        self.assertEqual(desk.tell("glue x d p=q"), "kept 6")
        self.assertEqual(desk.tell("show x"), "p; r; a p p; b r p; c r p; t b c a")
        self.assertEqual(desk.tell("glue x s a=b"), "kept 3")
        self.assertEqual(desk.tell("show x"), "p; q; a q p")
        self.assertEqual(desk.tell("glue x s b=a"), "kept 3")
        self.assertEqual(desk.tell("show x"), "p; q; a q p")
        self.assertEqual(desk.tell("glue x s q=r p=s a=a"), "kept 4")
        self.assertEqual(desk.tell("show x"), "p; q; a q p; b p q")
        self.assertEqual(desk.tell("glue x s p=q q=r r=s a=b"), "kept 2")
        self.assertEqual(desk.tell("show x"), "p; a p p")
        self.assertEqual((desk.tell("show d"), desk.tell("show s")), (TRIANGLE, PAIR))

    def test_the_first_pieces_name(self):
        desk = desk_with(x="c; b; a; d")
        desk.tell("glue y x a=d b=a")
        self.assertEqual(desk.tell("show y"), "c; b")

    def test_onto_itself(self):
        desk = desk_with(x=PAIR)
        self.assertEqual(desk.tell("glue x x a=b"), "kept 3")
        self.assertEqual(desk.tell("show x"), "p; q; a q p")
        self.assertEqual(desk.tell("glue x x p=q"), "kept 2")
        self.assertEqual(desk.tell("holes x"), "1 1 0 0")
        self.refused(desk, "glue x x p=q", NoName)

    def test_no_pieces_name_ahead_of_unlike_levels(self):
        desk = desk_with(x=TRIANGLE, e="")
        for row in ("glue y x p=z", "glue y x z=p", "glue y x p=a p=z", "glue y x p=z p=a", "glue y x p=q a=t r=z",
                    "glue y x z=z", "glue y e p=p", "glue y x a=x", "glue x x p=a z=p"):
            self.refused(desk, row, NoName)
        for row in ("glue y x p=a", "glue y x a=p", "glue y x t=a", "glue y x p=q a=t", "glue y x a=t p=q",
                    "glue x x p=t"):
            self.refused(desk, row, NoGlue)
        self.assertEqual(desk.tell("show x"), TRIANGLE)
        self.refused(desk, "show y", NoName)

    def test_words_not_so_made(self):
        desk = desk_with(x=TRIANGLE)
        for word in ("p", "=", "p=", "=p", "p==q", "p=q=r", "p-q", "P=q", "p=Q", "p=q;", "p= q", "p =q", "p=q ", "",
                     "abcdefghi=p", "p=abcdefghi", "p=1", "p=\u00e9", "p=q\n"):
            self.refused(desk, f"glue y x {word}", NoRow)
            self.refused(desk, f"glue y x p=q {word}", NoRow)
            self.refused(desk, f"glue y z {word}", NoRow)


class TestDrop(DeskCase):
    def test_let_go(self):
        desk = desk_with(x=TORUS, y="p")
        self.assertEqual(desk.tell("drop x"), "dropped")
        for row in ("show x", "holes x", "bars x 2", "core y x", "glue y x p=p", "drop x"):
            self.refused(desk, row, NoName)
        self.assertEqual(desk.tell("show y"), "p")
        self.assertEqual(desk.tell("keep x q"), "kept 1")
        self.assertEqual(desk.tell("show x"), "q")


class TestRefused(DeskCase):
    def test_no_rows(self):
        desk = desk_with(x=TORUS)
        rows = odd_things() + [0, 1, (), ("show", "x"), [], ["show x"], "", " ", "x", "keep", "keep ", "keep  ",
                               "keep  x", " keep x", "keep X", "keep x; y", "keep abcdefghi p", "keep 1 p", "keep x\n",
                               "keep\tx", "Keep x", "KEEP x", "keepx", "keep x1", "show", "show ", "show  x", "show x ",
                               "show x x", " show x", "Show x", "show x\n", "show X", "show x1", "show abcdefghi",
                               "shows x", "holes", "holes ", "holes x x", "holes x ", "holes  x", "hole x", "holes x 2",
                               "bars", "bars x", "bars x ", "bars 2", "bars 2 x", "bars x 2 ", "bars x 2 3",
                               "bars  x 2", "bars x  2", "core", "core x", "core x ", "core y x ", "core y x x",
                               "core  y x", "core Y x", "core y X", "core y", "glue", "glue y", "glue y x", "glue y x ",
                               "glue y p=p", "glue y  x p=p", "glue Y x p=p", "glue y X p=p", "glue y x p=p ", "drop",
                               "drop ", "drop x ", "drop x x", "drop  x", "drop X", "take x", "told x", "take y x p=p",
                               "glues y x p=p", "bars X 2", "bars x1 2", "bars abcdefghi 2", "\u00e9 x",
                               "show \u00e9", "keep \u00e9 p", "show x\u00a0", "show\u00a0x"]
        for row in rows:
            for turn in range(2):
                self.refused(desk, row, NoRow)
        self.assertEqual(desk.tell("show x"), TORUS)

    def test_names_by_which_none_is_kept(self):
        desk = desk_with(x=TORUS)
        for row in ("show y", "holes y", "bars y 2", "core x y", "core y y", "glue x y p=p", "glue y y p=p", "drop y",
                    "show abcdefgh", "show xx"):
            self.refused(desk, row, NoName)
            self.refused(Desk(), row, NoName)
        self.assertEqual(desk.tell("show x"), TORUS)

    def test_rows_with_two_faults(self):
        desk = desk_with(x=TORUS)
        # No row ahead of no name, that ahead of no prime, and so on.
        for row, kind in (("bars y 02", NoRow), ("bars y 4", NoName), ("bars x 4", NoPrime), ("glue y z p", NoRow),
                          ("glue y z p=zz", NoName), ("glue y z p=a", NoName), ("glue y x p=a zz=p", NoName),
                          ("glue y x p=a a=t", NoGlue), ("core Y z", NoRow), ("show Y", NoRow), ("keep X p  q", NoRow),
                          ("keep x p; p; P", NoText), ("keep x p; p; a p", NoName), ("drop y ", NoRow)):
            self.refused(desk, row, kind)
        many = "; ".join(names_for(41))
        self.refused(desk, f"keep x {many}; aa", NoName)
        self.refused(desk, f"keep x {many}; zz aa", NoShape)
        self.refused(desk, f"keep x {many}; z z", NoName)

    def test_a_refused_row_leaves_all_as_it_was(self):
        desk = desk_with(x=TORUS, y="p; q", e="")
        for row in ("keep x p p", "keep y ;", "glue x y p=z", "glue y x p=a", "core x z", "core y Z", "bars x 9", None,
                    "drop z", "drop x y", "keep e p; a p", "keep z p; p"):
            with self.assertRaises((NoRow, NoName, NoText, NoPiece, NoPrime, NoGlue)):
                desk.tell(row)
            self.assertEqual([desk.tell(f"show {name}") for name in "xye"], [TORUS, "p; q", ""])
            self.refused(desk, "show z", NoName)


class TestDesks(DeskCase):
    def test_two_beside_one_another(self):
        one, other = Desk(), Desk()
        one.tell("keep x p")
        self.refused(other, "show x", NoName)
        other.tell("keep x q; r")
        self.assertEqual((one.tell("show x"), other.tell("show x")), ("p", "q; r"))
        one.tell("drop x")
        self.assertEqual(other.tell("show x"), "q; r")

    def test_many_names(self):
        desk = Desk()
        for i, name in enumerate(names_for(40)):
            desk.tell(f"keep {name} " + "; ".join(names_for(i)))
        for i, name in enumerate(names_for(40)):
            self.assertEqual(desk.tell(f"holes {name}"), f"{i} 0 0 0")

    def test_asking_changes_nothing(self):
        desk = desk_with(x=BOTTLE, d=TRIANGLE)
        wanted = [desk.tell(row) for row in ("show x", "holes x", "bars x 2", "bars x 3", "show d", "holes d")]
        for turn in range(2):
            desk.tell("core c d")
            desk.tell("glue g x a=b")
            desk.tell("glue c g p=p")
            desk.tell("drop c")
            told = [desk.tell(row) for row in ("show x", "holes x", "bars x 2", "bars x 3", "show d", "holes d")]
            self.assertEqual(told, wanted)

    def test_answers_are_texts(self):
        desk = Desk()
        for row in ("keep x p; a p p", "show x", "holes x", "bars x 2", "core y x", "glue y x p=p", "drop y"):
            self.assertIs(type(desk.tell(row)), str)

    def test_the_desk_agrees_with_the_book(self):
        desk = Desk()
        for shape in (EXAMPLE, TETRA):
            desk.tell("keep x " + written(shape, names_for(len(shape))))
            book = Book(shape)
            self.assertEqual(desk.tell("holes x"), " ".join(str(book.count(k)) for k in range(4)))


if __name__ == "__main__":
    unittest.main()
