"""The refusals of the program, one class for each."""


class LeafError(ValueError):
    pass


class NoSheet(LeafError):
    pass


class NoFold(LeafError):
    pass


class NoPlace(LeafError):
    pass


class Ajar(LeafError):
    pass


class Severed(LeafError):
    pass


class Bolted(LeafError):
    pass


class Loose(LeafError):
    pass


class NoWord(LeafError):
    pass
