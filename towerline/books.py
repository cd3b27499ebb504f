"""Books of phrases, tellings, what they cost, and how rows are read: point [10]."""

from towerline.errors import BadBook, BadPaper, OutOfPlace, TooGreat
from towerline.kinds import CODE_SIGNS, is_integer, is_short_word, is_tuple, is_whole, need_text

MOST_PAIRS = 40
MOST_PHRASE = 8
MOST_CODE = 5
MOST_TEXT = 200
MOST_NUMBERS = 200
MOST_READS = 100


def need_book(thing):
    """The thing itself, if it is a BOOK; else the number of the first wrong pair is told."""
    if not is_tuple(thing, 1, MOST_PAIRS):
        raise BadBook(None)
    phrases = {}
    codes = {}
    for number in range(len(thing)):
        if not is_pair(thing[number]):
            raise BadBook(number)
        phrase, code = thing[number]
        if phrase in phrases or code in codes:
            raise BadBook(number)
        phrases[phrase] = True
        codes[code] = True
    return thing


def is_pair(thing):
    """Whether a thing is a pair of a PHRASE and a CODE."""
    if not is_tuple(thing, 2, 2):
        return False
    return is_short_word(thing[0], CODE_SIGNS, MOST_PHRASE) and is_short_word(thing[1], CODE_SIGNS, MOST_CODE)


def _pieces(words, text):
    """For each place of a text the (NUMBER, END) of all words that stand there, the shorter ones first.

    Words are the strings of the pairs of a BOOK, PHRASES or CODES, in their order.
    """
    numbers = {words[number]: number for number in range(len(words))}
    sizes = sorted({len(word) for word in words})
    return [
        [
            (numbers[text[at:at + size]], at + size)
            for size in sizes
            if at + size <= len(text) and text[at:at + size] in numbers
        ]
        for at in range(len(text))
    ]


def _phrases_in(book, text):
    """The pieces of a text that are PHRASES."""
    return _pieces([phrase for phrase, _ in book], text)


def _codes_in(book, row):
    """The pieces of a row that are CODES."""
    return _pieces([code for _, code in book], row)


def _ways_on(pieces):
    """In how many ways pieces lead from each place to the end."""
    ways = [1]
    # The places are gone through from the last one on, so that of the end is ways[0] here.
    for at in range(len(pieces) - 1, -1, -1):
        ways.append(sum([ways[len(pieces) - end] for _, end in pieces[at]]))
    return ways[::-1]


def _cheapest(book, text):
    """For each place of a text the COST of a cheapest way to it, and the last number of one; None without any."""
    pieces = _phrases_in(book, text)
    costs = [0] + [None] * len(text)
    lasts = [None] * (len(text) + 1)
    for at in range(len(text)):
        if costs[at] is None:
            continue
        for number, end in pieces[at]:
            cost = costs[at] + len(book[number][1])
            if costs[end] is None or cost < costs[end]:
                costs[end] = cost
                lasts[end] = number
    return (costs, lasts)


def _telling_to_end(book, lasts):
    """The numbers of a cheapest way to the last place."""
    numbers = []
    at = len(lasts) - 1
    while at > 0:
        numbers.append(lasts[at])
        at -= len(book[lasts[at]][0])
    return tuple(numbers[::-1])


def _paper_on(book, text):
    """What cost_paper returns, of what are a BOOK and a text."""
    costs, lasts = _cheapest(book, text)
    if costs[-1] is None:
        return None
    return (_telling_to_end(book, lasts), tuple(costs))


def least_cost(book, text):
    """LEAST COST of a text, or None without a TELLING."""
    need_book(book)
    need_text(text, MOST_TEXT, "the text")
    costs, _ = _cheapest(book, text)
    return costs[-1]


def telling(book, text):
    """A TELLING of a text with LEAST COST, or None without any."""
    need_book(book)
    need_text(text, MOST_TEXT, "the text")
    paper = _paper_on(book, text)
    return None if paper is None else paper[0]


def many_tellings(book, text):
    """How many TELLINGS of a text there are."""
    need_book(book)
    need_text(text, MOST_TEXT, "the text")
    return _ways_on(_phrases_in(book, text))[0]


def is_telling(book, thing):
    """Whether a thing is a TELLING of some text."""
    if not is_tuple(thing, 0, MOST_NUMBERS):
        return False
    return all([is_integer(number, 0, len(book) - 1) for number in thing])


def row_of(book, numbers):
    """The row as which what is a TELLING is SENT."""
    return "".join([book[number][1] for number in numbers])


def sent(book, telling):
    """The row as which a TELLING is SENT."""
    need_book(book)
    if not is_telling(book, telling):
        raise OutOfPlace(f"the telling is no tuple of at most {MOST_NUMBERS} numbers of pairs")
    return row_of(book, telling)


def cost_paper(book, text):
    """A paper on LEAST COST of a text: (TELLING, BOUNDS), or None without a TELLING."""
    need_book(book)
    need_text(text, MOST_TEXT, "the text")
    return _paper_on(book, text)


def check_cost(book, text, paper):
    """LEAST COST of a text, if a paper on it is as told."""
    need_book(book)
    need_text(text, MOST_TEXT, "the text")
    if not is_tuple(paper, 2, 2):
        raise BadPaper("form")
    numbers, bounds = paper
    if not is_telling(book, numbers) or "".join([book[number][0] for number in numbers]) != text:
        raise BadPaper("telling")
    cost = len(row_of(book, numbers))
    if not _are_bounds(book, text, bounds) or bounds[-1] != cost:
        raise BadPaper("bounds")
    return cost


def _are_bounds(book, text, thing):
    """Whether a thing is a tuple of BOUNDS, whatever the last one is."""
    if not is_tuple(thing, len(text) + 1, len(text) + 1):
        return False
    if not all([bound is None or is_whole(bound) for bound in thing]):
        return False
    if thing[0] is None or thing[0] > 0:
        return False
    pieces = _phrases_in(book, text)
    for at in range(len(text)):
        if thing[at] is None:
            continue
        for number, end in pieces[at]:
            if thing[end] is None or thing[end] > thing[at] + len(book[number][1]):
                return False
    return True


def reads(book, row):
    """The ascending tuple of the texts as which a row is READ."""
    need_book(book)
    need_text(row, MOST_TEXT, "the row")
    pieces = _codes_in(book, row)
    ways = _ways_on(pieces)
    if ways[0] > MOST_READS:
        raise TooGreat(MOST_READS)
    texts = [{} for _ in ways]
    texts[0][""] = True
    for at in range(len(pieces)):
        for number, end in pieces[at]:
            # What leads to the end is a part of a TELLING, so of these there are few.
            if ways[end] > 0:
                for text in list(texts[at]):
                    texts[end][text + book[number][0]] = True
    return tuple(sorted(texts[-1]))


def many_reads(book, row):
    """How many TELLINGS are SENT as a row."""
    need_book(book)
    need_text(row, MOST_TEXT, "the row")
    return _ways_on(_codes_in(book, row))[0]
