"""The refusals of the program, one class for each kind."""


class HoleError(ValueError):
    pass


class NoShape(HoleError):
    pass


class NoText(HoleError):
    pass


class NoName(HoleError):
    pass


class NoLevel(HoleError):
    pass


class NoChain(HoleError):
    pass


class NoTable(HoleError):
    pass


class NoTurn(HoleError):
    pass


class NoMap(HoleError):
    pass


class NoGlue(HoleError):
    pass


class NoPrime(HoleError):
    pass


class NoStage(HoleError):
    pass


class NoPair(HoleError):
    pass


class NoRow(HoleError):
    pass


class NoPiece(HoleError):
    def __init__(self, place):
        HoleError.__init__(self, f"the piece at place {place} does not fit")
        self.place = place


class NoRound(HoleError):
    def __init__(self, edge):
        # The edge stays out of the words: Python refuses to write out numbers of very many figures.
        HoleError.__init__(self, "the chain has a border")
        # A copy, since whoever made the refusal may go on changing the dict that was handed in.
        self.edge = dict(edge)
