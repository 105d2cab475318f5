"""Growths: shapes that grow piece by piece, their holes counted by a prime."""

from holebook.borders import add_faces
from holebook.chains import plus, times
from holebook.errors import NoPiece, NoPrime, NoStage
from holebook.pieces import fits, level_of
from holebook.primes import counted, is_prime, turned_over
from holebook.shapes import LEVELS, check_level, check_size
from holebook.wholes import is_whole_below


class Growth:
    def __init__(self, prime=2):
        if not is_prime(prime):
            raise NoPrime("a growth counts by a prime number from 2 to 97")
        self.prime = prime
        self.pieces = []
        # For each place its paper, and the border of that, counted by the prime.
        self.sheets = []
        self.edges = []
        # For the birth of each hole that is ended the place of the piece that ends it.
        self.enders = {}

    def grow(self, thing):
        place = len(self.pieces)
        if not fits(self.pieces, thing):
            raise NoPiece(place)
        check_size(self.pieces + [thing])
        faces = {}
        add_faces(faces, thing, 1)
        papers = self.settled({place: 1}, counted(faces, self.prime))
        self.pieces.append(thing)
        self.sheets.append(papers[0])
        self.edges.append(papers[1])
        if len(papers[1]) == 0:
            return None
        birth = max(papers[1])
        self.enders[birth] = place
        return birth

    def settled(self, sheet, edge):
        # No two pieces may end the same hole: where the one at the greatest place is ended already, the paper of its
        # ender is added so many times that this place goes. All places that come with it are lesser ones.
        while len(edge) > 0 and max(edge) in self.enders:
            birth = max(edge)
            ender = self.enders[birth]
            by = -edge[birth] * turned_over(self.edges[ender][birth], self.prime)
            sheet = counted(plus(sheet, times(by, self.sheets[ender])), self.prime)
            edge = counted(plus(edge, times(by, self.edges[ender])), self.prime)
        return (sheet, edge)

    def take_back(self):
        if len(self.pieces) == 0:
            raise NoStage("no piece is left to take back")
        edge = self.edges.pop()
        if len(edge) > 0:
            self.enders.pop(max(edge))
        self.sheets.pop()
        return self.pieces.pop()

    def shape(self):
        return list(self.pieces)

    def paper(self, place):
        if not is_whole_below(place, len(self.pieces)):
            raise NoStage("there is no piece at that place")
        return dict(self.sheets[place])

    def pairs(self):
        return [(birth, self.enders.get(birth)) for birth, edge in enumerate(self.edges) if len(edge) == 0]

    def alive(self, k, stage=None):
        check_level(k, LEVELS)
        many = len(self.pieces)
        if stage is not None and not is_whole_below(stage, many + 1):
            raise NoStage(f"a stage is a whole number from 0 to {many}")
        now = many if stage is None else stage
        holes = [pair for pair in self.pairs() if level_of(self.pieces[pair[0]]) == k]
        return len([pair for pair in holes if is_alive(pair, now)])


def is_alive(pair, stage):
    return pair[0] < stage and (pair[1] is None or pair[1] >= stage)
