"""The refusals: one class for each, all of them below HallError."""


class HallError(ValueError):
    pass


class NoThing(HallError):
    pass


class NoText(HallError):
    pass


class NoReason(HallError):
    pass


class AlreadyThere(HallError):
    pass


class NotThere(HallError):
    pass


class NoPlace(HallError):
    pass


class NoRoom(HallError):
    pass


class NoLevels(HallError):
    def __init__(self, ring):
        HallError.__init__(self, f"kinds that hang on their own absence: {ring!r}")
        self.ring = ring
