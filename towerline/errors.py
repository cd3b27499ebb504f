"""The errors of this package: one class for each kind of failure.

They keep what they are made of as it is: a message built of it could fail,
since an error may be made of any things.
"""


class BadTask(ValueError):
    """A thing is no TASK; part is the first part of it that is wrong."""

    def __init__(self, part):
        ValueError.__init__(self, part)
        self.part = part


class BadPaper(ValueError):
    """A paper does not prove what it should; part tells why."""

    def __init__(self, part):
        ValueError.__init__(self, part)
        self.part = part


class BadText(ValueError):
    """A text can not be read; line is the number of its first wrong row."""

    def __init__(self, line):
        ValueError.__init__(self, line)
        self.line = line


class OutOfPlace(ValueError):
    """An argument is not of the kind, or not in the place, that is told."""

    def __init__(self, text):
        ValueError.__init__(self, text)


class BadAlphabet(ValueError):
    """A thing is no ALPHABET; part is the first part of it that is wrong."""

    def __init__(self, part):
        ValueError.__init__(self, part)
        self.part = part


class BadBook(ValueError):
    """A thing is no BOOK; number is that of its first wrong pair, or None."""

    def __init__(self, number):
        ValueError.__init__(self, number)
        self.number = number


class BadRoad(ValueError):
    """A thing is no ROAD; number is that of its first wrong triple, or None."""

    def __init__(self, number):
        ValueError.__init__(self, number)
        self.number = number


class TooGreat(OverflowError):
    """More than the most that is looked at would have to be looked at."""

    def __init__(self, most):
        OverflowError.__init__(self, most)
        self.most = most


class Nothing(LookupError):
    """There is not so much as is asked for."""

    def __init__(self, text):
        LookupError.__init__(self, text)
