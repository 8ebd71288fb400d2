"""The refusals of the cutting room, each straight under CutError."""


class CutError(ValueError):
    pass


class NoNumber(CutError):
    pass


class NoClip(CutError):
    pass


class NoPlace(CutError):
    pass


class Mixed(CutError):
    pass


class NoRoom(CutError):
    pass


class TooMuch(CutError):
    pass


class NoText(CutError):
    pass


class NoOrder(CutError):
    pass


class Short(CutError):
    def __init__(self, most):
        self.most = most


class NoList(CutError):
    def __init__(self, at):
        self.at = at
