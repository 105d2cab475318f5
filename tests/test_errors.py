"""The interface's section on holebook/errors.py."""

import unittest

from holebook import errors

PLAIN = ("NoShape", "NoText", "NoName", "NoLevel", "NoChain", "NoTable", "NoTurn", "NoMap",
         "NoGlue", "NoPrime", "NoStage", "NoPair", "NoRow")
NAMES = PLAIN + ("NoPiece", "NoRound")


class TestErrors(unittest.TestCase):
    def test_all_stand_under_hole_error(self):
        self.assertTrue(issubclass(errors.HoleError, ValueError))
        for name in NAMES:
            with self.subTest(name):
                self.assertTrue(issubclass(getattr(errors, name), errors.HoleError))

    def test_none_stands_under_another(self):
        for one in NAMES:
            for other in NAMES:
                if one != other:
                    with self.subTest(one=one, other=other):
                        self.assertFalse(issubclass(getattr(errors, one), getattr(errors, other)))

    def test_plain_ones_are_raised_with_free_words(self):
        for name in ("HoleError",) + PLAIN:
            with self.subTest(name):
                with self.assertRaises(ValueError) as caught:
                    raise getattr(errors, name)("words")
                self.assertIs(type(caught.exception), getattr(errors, name))

    def test_no_piece_has_its_place(self):
        for place in (0, 1, 39, 40):
            self.assertEqual(errors.NoPiece(place).place, place)
        with self.assertRaises(ValueError) as caught:
            raise errors.NoPiece(7)
        self.assertEqual(caught.exception.place, 7)

    def test_no_round_has_its_edge(self):
        for edge in ({}, {0: 1}, {3: -2, 5: 10 ** 60}):
            self.assertEqual(errors.NoRound(edge).edge, edge)
            self.assertIsInstance(errors.NoRound(edge).edge, dict)
        with self.assertRaises(ValueError) as caught:
            raise errors.NoRound({1: 1, 0: -1})
        self.assertEqual(caught.exception.edge, {0: -1, 1: 1})

    def test_no_round_takes_numbers_of_very_many_figures(self):
        edge = {0: 10 ** 6000}
        self.assertEqual(errors.NoRound(edge).edge, edge)
        self.assertIsInstance(str(errors.NoRound(edge)), str)

    def test_an_edge_is_its_own_dict(self):
        edge = {0: 1}
        error = errors.NoRound(edge)
        edge[0] = 5
        edge[2] = 1
        self.assertEqual(error.edge, {0: 1})
        error.edge.clear()
        self.assertEqual(edge, {0: 5, 2: 1})


if __name__ == "__main__":
    unittest.main()
