"""The refusals: one class for each kind, all under TreeError."""


class TreeError(ValueError):
    """Any refusal."""


class NoTree(TreeError):
    """A row is no tree."""


class NoTie(TreeError):
    """A number is none of the ties, or an exchange is none."""


class NoNumber(TreeError):
    """A number or a fraction leads to nothing."""


class NoEnd(TreeError):
    """A heap comes to an end."""


class NoAsk(TreeError):
    """A line asks for nothing that the desk knows."""


class NoWeb(TreeError):
    """A text is no web; keeps the first row that is wrong, counted from 0."""

    def __init__(self, row):
        super().__init__(f"row {row} is wrong")
        self.row = row


class NoName(TreeError):
    """A word is none of the names; keeps that word."""

    def __init__(self, word):
        super().__init__(f"{word} is none of the names")
        self.word = word
