"""What kinds the things are that callers pass.

Each of these may be asked of any thing at all, so each looks at the kind
before it compares, measures or goes through the thing.
"""

from towerline.errors import OutOfPlace

FIGURES = "0123456789"
CODE_SIGNS = "0123456789abcdefghijklmnopqrstuvwxyz"


def is_whole(thing):
    """Whether a thing is an integer."""
    # True and False are ints to Python, but no integers to this package.
    return isinstance(thing, int) and not isinstance(thing, bool)


def is_integer(thing, least, most):
    """Whether a thing is an integer from least to most."""
    return is_whole(thing) and least <= thing <= most


def is_tuple(thing, least, most):
    """Whether a thing is a tuple of least to most things."""
    return isinstance(thing, tuple) and least <= len(thing) <= most


def is_word(thing, signs):
    """Whether a thing is a string of some signs, at least one."""
    # strip goes through the string at once; it leaves nothing of such a one alone.
    return isinstance(thing, str) and thing != "" and thing.strip(signs) == ""


def is_short_word(thing, signs, most):
    """Whether a thing is a string of 1 to so many of some signs."""
    return is_word(thing, signs) and len(thing) <= most


def is_text(thing, signs, most):
    """Whether a thing is a string of at most so many of some signs; it may be empty."""
    return isinstance(thing, str) and len(thing) <= most and thing.strip(signs) == ""


def is_rising_word(thing, signs):
    """Whether a thing is an ascending string of some signs, at least one."""
    if not isinstance(thing, str) or thing == "":
        return False
    ahead = ""
    for sign in thing:
        if sign <= ahead or sign not in signs:
            return False
        ahead = sign
    return True


def is_ascending(row):
    """Whether each item of a tuple of strings is greater than the one ahead."""
    return sorted(row) == list(row) and len(set(row)) == len(row)


def need_integer(thing, least, most, name):
    """Refuse what is no integer from least to most."""
    if not is_integer(thing, least, most):
        raise OutOfPlace(f"{name} is no integer from {least} to {most}")


def need_text(thing, most, name):
    """Refuse what is no string of at most so many signs of which codes may be."""
    if not is_text(thing, CODE_SIGNS, most):
        raise OutOfPlace(f"{name} is no string of at most {most} letters and figures")


def read_number(word, most):
    """The number that a string of at most so many figures, without a 0 ahead, tells, or None."""
    if not is_short_word(word, FIGURES, most):
        return None
    if word[0] == "0" and word != "0":
        return None
    return int(word)
