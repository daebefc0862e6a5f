"""The refusals, one class for each."""


class PackError(ValueError):
    pass


class BadOrder(PackError):
    pass


class BadMove(PackError):
    pass


class BadNumber(PackError):
    pass


class BadText(PackError):
    pass
