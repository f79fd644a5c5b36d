"""The refusals: each stands straight under WishError."""


class WishError(ValueError):
    """What all refusals of this package are."""


class TooMany(WishError):
    """A search came to more than it may hold."""


class NoWish(WishError):
    """No told wish has this name with these lines."""


class NoText(WishError):
    """A text is no house's; `row` is the number of its first wrong row."""

    def __init__(self, row):
        WishError.__init__(self, f"no house's text, by row {row}")
        self.row = row


class NoSheet(WishError):
    """A text is no sheet; `row` is the number of its first wrong row."""

    def __init__(self, row):
        WishError.__init__(self, f"no sheet, by row {row}")
        self.row = row
