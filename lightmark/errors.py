"""The refusals: one class for each, all straight under MarkError."""


class MarkError(ValueError):
    pass


class BadText(MarkError):
    pass


class BadName(MarkError):
    pass


class BadTree(MarkError):
    pass


class OutOfPlace(MarkError):
    pass


class BadWidth(MarkError):
    pass
