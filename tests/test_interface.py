"""The interface: each name is there, in its module, with its arguments."""

import importlib
import inspect
import unittest

FUNCTIONS = {
    "pieces": ("level_of(piece)", "fits(shape, thing)"),
    "shapes": ("is_shape(thing)", "shape_of(thing)", "places(shape, k)", "corners(shape, place)", "count_of(shape)",
               "balance(shape)"),
    "texts": ("read(thing)", "written(shape, names)"),
    "chains": ("is_chain(shape, k, thing)", "plus(one, other)", "times(number, chain)", "weigh(gauge, chain)"),
    "borders": ("border(shape, chain)", "is_round(shape, chain)", "border_table(shape, k)", "row_of(shape, k, chain)",
                "chain_of(shape, k, row)"),
    "tables": ("is_table(thing, width)", "product(one, other, width)", "flipped(table, width)", "ones(size)",
               "times_list(table, numbers)", "list_times(numbers, table, width)"),
    "turning": ("back_of(turn)",),
    "diagonal": ("diagonal(table, width)", "rank(table, width)"),
    "solving": ("solved(table, width, wanted)", "barred(table, width, wanted)", "spare(table, width)"),
    "maps": ("is_map(thing, shape, other)", "carried(spots, chain)", "followed(first, second)",
             "hole_table(thing, book, other, k)"),
    "gluing": ("part(shape, places)", "beside(one, other)", "glued(shape, pairs)"),
    "cones": ("cone(shape)", "coned(shape, chain)"),
    "primes": ("is_prime(thing)", "turned_over(number, prime)"),
    "collapsing": ("bent(shape)", "away(shape, thing)", "core(shape)", "pushed(shape, chain)"),
    "looks": ("diagonal_holds(table, width, thing)", "book_holds(shape, holes, lifts)",
              "growth_holds(shape, prime, papers)"),
}
# Each class as it is made, and its methods.
CLASSES = {
    "turning": ("Turner(table, width)", "turn_rows(thing)", "turn_columns(thing)", "take_back()", "many()", "now()",
                "papers()"),
    "holes": ("Book(thing)", "shape()", "holes(k)", "lift(place)", "count(k)", "twists(k)", "told(k, chain)"),
    "growing": ("Growth(prime=2)", "grow(thing)", "take_back()", "shape()", "paper(place)", "pairs()",
                "alive(k, stage=None)"),
    "desk": ("Desk()", "tell(thing)"),
}


def told_of(thing, drop):
    """The name of a function and its arguments, without so many at the head."""
    parts = list(inspect.signature(thing).parameters.values())[drop:]
    return f"{thing.__name__}({', '.join(map(str, parts))})"


class TestInterface(unittest.TestCase):
    def test_functions(self):
        for module, wanted in FUNCTIONS.items():
            found = importlib.import_module(f"holebook.{module}")
            for text in wanted:
                thing = getattr(found, text.partition("(")[0])
                self.assertTrue(inspect.isfunction(thing))
                self.assertEqual(told_of(thing, 0), text)

    def test_classes(self):
        for module, (made, *methods) in CLASSES.items():
            found = getattr(importlib.import_module(f"holebook.{module}"), made.partition("(")[0])
            self.assertTrue(inspect.isclass(found))
            self.assertEqual(told_of(found, 0), made)
            for text in methods:
                self.assertEqual(told_of(getattr(found, text.partition("(")[0]), 1), text)


if __name__ == "__main__":
    unittest.main()
