"""The refusals: one base, and each class straight under it."""


class WebError(ValueError):
    """Any refusal."""


class NoText(WebError):
    """A text that does not write what it is read as."""

    def __init__(self, row, word):
        self.row = row
        self.word = word


class NoPaper(WebError):
    """A thing that is not the paper it is asked to be."""

    # Points that tell a path and a word alone mean the number 0.
    def __init__(self, path, word, number=0):
        self.path = path
        self.word = word
        self.number = number


class TooMany(WebError):
    """An answer that would be greater than a web may be."""

    def __init__(self, word):
        self.word = word


class NoCore(WebError):
    """A thing that is no core paper."""

    def __init__(self, place, word):
        self.place = place
        self.word = word


class NoLeast(WebError):
    """A thing that is no least paper."""

    def __init__(self, word):
        self.word = word


class NoPairs(WebError):
    """A thing that is no pair paper."""

    def __init__(self, number, word):
        self.number = number
        self.word = word


class NoBar(WebError):
    """A thing that is no bar."""

    def __init__(self, word):
        self.word = word


class NoHold(WebError):
    """A deed that a holder can not do as its web and lists are."""

    def __init__(self, place, number):
        self.place = place
        self.number = number


class NoLevel(WebError):
    """A level taken away where none was pushed."""


class NoRow(WebError):
    """A row that a desk does not know."""

    def __init__(self, row):
        self.row = row
