"""The refusals of the whole program."""


class RoomError(ValueError):
    pass


class NoProgram(RoomError):
    pass


class NoWorths(RoomError):
    pass


class BadPaper(RoomError):
    pass


class BadPlan(RoomError):
    pass


class NoText(RoomError):
    pass


class NoStep(RoomError):
    pass
