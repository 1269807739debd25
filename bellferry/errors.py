"""The refusals: one error class for each kind of them."""


class FerryError(ValueError):
    pass


class NoName(FerryError):
    pass


class Twice(FerryError):
    pass


class NoWidth(FerryError):
    pass


class NoWord(FerryError):
    pass


class TooMany(FerryError):
    pass


class Unknown(FerryError):
    pass


class NoFerry(FerryError):
    pass


class NoStep(FerryError):
    pass


class NoCode(FerryError):
    pass


class NoText(FerryError):
    pass
