"""The refusals: a class for each, with what it was made with in its fields."""


class ThrowError(ValueError):
    pass


class NoText(ThrowError):
    def __init__(self, row):
        self.row = row


class NoProgram(ThrowError):
    def __init__(self, word, row):
        self.word = word
        self.row = row


class TooMany(ThrowError):
    def __init__(self, most):
        self.most = most


class NoRows(ThrowError):
    pass


class NoPaper(ThrowError):
    def __init__(self, at):
        self.at = at


class NoFit(ThrowError):
    pass


class NoRow(ThrowError):
    pass
