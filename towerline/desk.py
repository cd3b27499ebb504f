"""The desk, which is asked by lines of words: point [15]."""

from towerline.books import least_cost, many_reads, need_book, sent, telling
from towerline.clearness import is_clear
from towerline.errors import BadBook, BadRoad, OutOfPlace
from towerline.fog import least_one, many_sent
from towerline.kinds import read_number
from towerline.times import lag, need_road, pace, shown, when

MOST_FIGURES = 31
DONE = "done"
NO = "no"
NONE = "none"

# What a line wants behind its first word: N for an integer, W for another word.
FORMS = {
    "tower": "NNN", "phrase": "WW", "bare": "",
    "when": "NN", "pace": "", "lag": "", "shown": "NN",
    "cost": "W", "tell": "W", "clear": "", "reads": "W",
    "sent": "NNN", "least": "WW",
}


def _told(answer):
    """The text of a number, or of None."""
    return NONE if answer is None else str(answer)


def _tell_when(road, book, things):
    """The moment at which a TOWER shows a sign."""
    return _told(when(road, things[0], things[1]))


def _tell_pace(road, book, things):
    """The PACE."""
    return _told(pace(road))


def _tell_lag(road, book, things):
    """The LAG."""
    return _told(lag(road))


def _tell_shown(road, book, things):
    """The number of the last sign that a TOWER shows."""
    return _told(shown(road, things[0], things[1]))


def _tell_cost(road, book, things):
    """LEAST COST."""
    return _told(least_cost(book, things[0]))


def _tell_row(road, book, things):
    """The row as which a text is SENT."""
    numbers = telling(book, things[0])
    return NONE if numbers is None else sent(book, numbers)


def _tell_clear(road, book, things):
    """Whether the BOOK is CLEAR."""
    return "clear" if is_clear(book) else "two"


def _tell_reads(road, book, things):
    """How many TELLINGS are SENT as a row."""
    return _told(many_reads(book, things[0]))


def _tell_sent(road, book, things):
    """MANY SENT."""
    return _told(many_sent(things[0], things[1], things[2]))


def _tell_least(road, book, things):
    """The LEAST ONE of two rows."""
    return _told(least_one(things[0], things[1]))


ANSWERS = {
    "when": _tell_when, "pace": _tell_pace, "lag": _tell_lag, "shown": _tell_shown,
    "cost": _tell_cost, "tell": _tell_row, "clear": _tell_clear, "reads": _tell_reads,
    "sent": _tell_sent, "least": _tell_least,
}


def _things_of(form, words):
    """What the words of a line are by its form."""
    if len(words) != len(form) or "" in words:
        raise OutOfPlace("the line has not the words that it wants")
    things = [read_number(word, MOST_FIGURES) if kind == "N" else word for kind, word in zip(form, words)]
    if None in things:
        raise OutOfPlace("a word of the line is no number")
    return tuple(things)


class Desk:
    """A desk that is told TOWERS and phrases, and asked about them."""

    def __init__(self):
        self._road = ()
        self._book = ()

    def say(self, line):
        """The answer to a line."""
        if not isinstance(line, str):
            raise OutOfPlace("the line is no string")
        words = line.split(" ")
        first = words[0]
        others = words[1:]
        try:
            return self._answer(first, others)
        except (BadRoad, BadBook, OutOfPlace):
            return NO

    def _answer(self, first, words):
        """The answer to a line by its first word and the other ones."""
        if first not in FORMS:
            raise OutOfPlace("the line begins with no word that is told")
        things = _things_of(FORMS[first], words)
        if first in ANSWERS:
            tell = ANSWERS[first]
            return tell(self._road, self._book, things)
        if first == "tower":
            self._road = need_road(self._road + (things,))
        elif first == "phrase":
            self._book = need_book(self._book + (things,))
        else:
            self._road = ()
            self._book = ()
        return DONE

    @property
    def road(self):
        """The tuple of the TOWERS that were told."""
        return self._road

    @property
    def book(self):
        """The tuple of the pairs that were told."""
        return self._book
