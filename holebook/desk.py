"""The desk: shapes kept by names, and rows that ask for them."""

from holebook.collapsing import core
from holebook.errors import NoName, NoRow
from holebook.gluing import glued
from holebook.growing import Growth
from holebook.holes import Book
from holebook.shapes import LEVELS, spots_of
from holebook.texts import is_name, read, spot_of, written


class Desk:
    def __init__(self):
        # By each name a pair of a shape and of the names of its pieces.
        self.kept = {}

    def tell(self, thing):
        words = words_of(thing)
        if words[0] == "keep":
            return self.keep(words[1], read(words[2]))
        asked = words[2] if words[0] in ("core", "glue") else words[1]
        if asked not in self.kept:
            raise NoName(f"no shape is kept by the name {asked}")
        return self.answer(words, asked)

    def keep(self, name, pair):
        self.kept[name] = pair
        many = len(pair[0])
        return f"kept {many}"

    def answer(self, words, asked):
        shape = self.kept[asked][0]
        names = self.kept[asked][1]
        if words[0] == "show":
            return written(shape, names)
        if words[0] == "holes":
            return holes_text(shape)
        if words[0] == "bars":
            return bars_text(shape, names, int(words[2]))
        if words[0] == "core":
            return self.keep(words[1], core_with_names(shape, names))
        if words[0] == "glue":
            return self.keep(words[1], glued_with_names(shape, names, words[3:]))
        self.kept.pop(asked)
        return "dropped"


def words_of(thing):
    if not isinstance(thing, str):
        raise NoRow("a row is a text")
    words = thing.split(" ")
    if thing.startswith("keep "):
        # Whatever stands behind the name and its blank is the text, blanks and all, or nothing.
        parts = thing[len("keep "):].partition(" ")
        words = ["keep", parts[0], parts[2]]
    if not is_row(words):
        raise NoRow("no row of the desk is so made")
    return words


def is_row(words):
    many = len(words)
    if words[0] == "keep":
        return many == 3 and is_name(words[1])
    if words[0] in ("show", "holes", "drop"):
        return many == 2 and is_name(words[1])
    if words[0] == "bars":
        return many == 3 and is_name(words[1]) and are_figures(words[2])
    if words[0] == "core":
        return many == 3 and is_name(words[1]) and is_name(words[2])
    if words[0] == "glue":
        return many > 3 and is_name(words[1]) and is_name(words[2]) and all([is_pair(word) for word in words[3:]])
    return False


def are_figures(word):
    # Python's own isdigit takes signs beyond 0 to 9, too.
    return 1 <= len(word) <= 2 and word[0] != "0" and all(["0" <= sign <= "9" for sign in word])


def is_pair(word):
    parts = word.split("=")
    return len(parts) == 2 and is_name(parts[0]) and is_name(parts[1])


def holes_text(shape):
    book = Book(shape)
    return " ".join([level_text(book, k) for k in range(LEVELS)])


def level_text(book, k):
    return "+".join([str(number) for number in [book.count(k)] + book.twists(k)])


def bars_text(shape, names, prime):
    growth = Growth(prime)
    for piece in shape:
        growth.grow(piece)
    return " ".join([bar_text(names, birth, end) for birth, end in growth.pairs()])


def bar_text(names, birth, end):
    return names[birth] if end is None else "-".join([names[birth], names[end]])


def core_with_names(shape, names):
    papers = core(shape)
    return (papers[0], [names[place] for place in papers[1]])


def glued_with_names(shape, names, words):
    spots = spots_of(names)
    # All names are looked up ahead of any gluing, since a name that is none is refused first.
    pairs = [pair_of(spots, word) for word in words]
    papers = glued(shape, pairs)
    return (papers[0], [names[papers[1].index(lot)] for lot in range(len(papers[0]))])


def pair_of(spots, word):
    return tuple([spot_of(spots, name) for name in word.split("=")])
