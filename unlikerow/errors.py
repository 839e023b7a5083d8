"""The refusals: one class for each, all under RowError."""


class RowError(ValueError):
    pass


class NoTable(RowError):
    pass


class NoWindow(RowError):
    pass


class NoNeeds(RowError):
    pass


class NoPlace(RowError):
    pass


class NoRow(RowError):
    pass


class NoCommand(RowError):
    pass
