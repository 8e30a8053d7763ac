"""The refusals of Packhall: one class for each."""


class PackError(ValueError):
    pass


class NoNumber(PackError):
    pass


class NoCode(PackError):
    pass


class NoPlace(PackError):
    pass


class Broken(PackError):
    pass


class NoText(PackError):
    pass


class NoName(PackError):
    pass


class NoRow(PackError):
    pass
