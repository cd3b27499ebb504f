"""The texts of roads and books: point [15]."""

from towerline.books import MOST_PAIRS, is_pair, need_book
from towerline.errors import BadText
from towerline.kinds import read_number
from towerline.times import MOST_TOWERS, is_triple, need_road

MOST_FIGURES = 4


def road_text(road):
    """The text of a ROAD."""
    need_road(road)
    return "\n".join([f"{see} {hold} {answer}" for see, hold, answer in road])


def book_text(book):
    """The text of a BOOK."""
    need_book(book)
    return "\n".join([f"{phrase} {code}" for phrase, code in book])


def _rows_of(thing):
    """The words of each row of a text, as tuples."""
    if not isinstance(thing, str):
        raise BadText(0)
    return [tuple(row.split(" ")) for row in thing.split("\n")]


def read_road(string):
    """The ROAD of a text; else the first row is told that can not stand so."""
    found = []
    for words in _rows_of(string):
        # What is no such number is None here, which no triple has.
        triple = tuple([read_number(word, MOST_FIGURES) for word in words])
        if len(found) == MOST_TOWERS or not is_triple(triple):
            raise BadText(len(found) + 1)
        found.append(triple)
    return tuple(found)


def read_book(string):
    """The BOOK of a text; else the first row is told that can not stand so."""
    found = []
    phrases = {}
    codes = {}
    for pair in _rows_of(string):
        if len(found) == MOST_PAIRS or not is_pair(pair) or pair[0] in phrases or pair[1] in codes:
            raise BadText(len(found) + 1)
        phrases[pair[0]] = True
        codes[pair[1]] = True
        found.append(pair)
    return tuple(found)
