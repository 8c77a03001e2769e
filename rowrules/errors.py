"""What the program refuses with: one class for each refusal, all straight under RowError."""


class RowError(ValueError):
    pass


class NoRule(RowError):
    pass


class NoRow(RowError):
    def __init__(self, at):
        self.at = at


class NoSuch(RowError):
    pass


class NoWindow(RowError):
    pass


class TooWide(RowError):
    pass


class NoWayBack(RowError):
    pass


class NoWeights(RowError):
    pass


class NoText(RowError):
    pass


class NoName(RowError):
    pass


class NoAsk(RowError):
    pass
