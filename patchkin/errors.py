"""The refusals of the program: one class for each, all straight beneath PatchError."""


class PatchError(ValueError):
    pass


class BadName(PatchError):
    pass


class NameTaken(PatchError):
    pass


class NoStore(PatchError):
    pass


class NoPatch(PatchError):
    pass


class NoLine(PatchError):
    pass


class Unsettled(PatchError):
    pass


class Same(PatchError):
    pass


class Leant(PatchError):
    pass
