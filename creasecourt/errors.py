"""The refusals. Their words never show what was handed in: it may be of any kind and any length."""


class CreaseError(ValueError):
    pass


class NoSize(CreaseError):
    pass


class NoMark(CreaseError):
    pass


class NoText(CreaseError):
    pass


class NoRound(CreaseError):
    pass


class NoOrder(CreaseError):
    pass


class TooMany(CreaseError):
    pass


class NoFold(CreaseError):
    pass


class NoRow(CreaseError):
    pass


class NoName(CreaseError):
    pass


class Taken(CreaseError):
    pass


class NoEdge(CreaseError):
    def __init__(self, edge):
        CreaseError.__init__(self, "no such edge or corner is there")
        self.edge = edge


class Twice(CreaseError):
    def __init__(self, edge):
        CreaseError.__init__(self, "the edge came ahead of it already")
        self.edge = edge


class Barred(CreaseError):
    def __init__(self, corner):
        CreaseError.__init__(self, "a corner is barred by its gaps")
        self.corner = corner
