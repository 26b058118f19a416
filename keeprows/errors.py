"""The errors of the package; each one has what was wrong as its attribute."""


class StoreError(LookupError):
    """What all errors of the package are."""


class InvalidSettings(StoreError):
    """A part of settings is not so, or what must be Settings is not."""

    def __init__(self, part):
        self.part = part


class InvalidText(StoreError):
    """A text is not the text of settings, from a line on."""

    def __init__(self, line):
        self.line = line


class InvalidRow(StoreError):
    """An object is not the number of a row."""

    def __init__(self, row):
        self.row = row


class InvalidPage(StoreError):
    """An object is not the number of a page."""

    def __init__(self, page):
        self.page = page


class InvalidNumber(StoreError):
    """An object is not a moment, or not another number that is asked for."""

    def __init__(self, number):
        self.number = number


class InvalidArgument(StoreError):
    """An argument, told by its name, is not what it must be."""

    def __init__(self, part):
        self.part = part


class LimitExceeded(StoreError):
    """There is more of something than the limit."""

    def __init__(self, limit):
        self.limit = limit
