"""The refusals: each kind stands right under HalveError."""


class HalveError(ValueError):
    """Any refusal."""


class NoTree(HalveError):
    """A text is no tree's; `at` is the first place that shows it."""

    def __init__(self, at):
        super().__init__(f"no tree's text, as place {at} shows")
        self.at = at


class NoMap(HalveError):
    """Two trees have unlike numbers of leaves; `at` is the lesser one."""

    def __init__(self, at):
        super().__init__(f"no map: one tree ends behind {at} leaves, the other goes on")
        self.at = at


class NoBreaks(HalveError):
    """A list of points tells no map; `at` is the first wrong pair's number."""

    def __init__(self, at):
        super().__init__(f"no map's list of points, as pair {at} shows")
        self.at = at


class NoRow(HalveError):
    """A text is no row; `at` is the first place that shows it."""

    def __init__(self, at):
        super().__init__(f"no row, as place {at} shows")
        self.at = at


class NoText(HalveError):
    """A text can't be read; `at` is where that shows."""

    def __init__(self, at):
        super().__init__(f"no such text, as number {at} of it shows")
        self.at = at


class Twice(HalveError):
    """A name is given again."""

    def __init__(self, name):
        super().__init__(f"the name {name} is given already")
        self.name = name


class NoName(HalveError):
    """A name is used that was not given ahead."""

    def __init__(self, name):
        super().__init__(f"the name {name} is not given ahead")
        self.name = name


class TooGreat(HalveError):
    """The expression in a row weighs too much."""

    def __init__(self, row):
        super().__init__(f"row {row} weighs too much")
        self.row = row


class NoUndo(HalveError):
    """What is to be undone in a drawing can't be undone now."""

    def __init__(self, at):
        super().__init__(f"nothing to undo, as number {at} shows")
        self.at = at
