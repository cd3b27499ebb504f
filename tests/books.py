"""Books for the tests, and slow, plain answers to compare with."""

import random

from tests.samples import odd_things

# Several tellings of one text, some of them with the same cost.
PLAIN = (("a", "1"), ("b", "02"), ("ab", "3"), ("ba", "04"), ("aba", "55555"), ("bb", "6"))
ALONE = (("a", "b"),)
# Whatever is sent is read in one way; rests are there all the same: "1" begins "10", and "0" is beyond.
RESTS = (("x", "1"), ("y", "10"), ("zz", "100"))
# No code begins with another one.
FREE = (("a", "0"), ("b", "10"), ("c", "110"), ("d", "111"))
# "01" is sent by the last one, and by the other two.
TWO = (("no", "0"), ("one", "1"), ("both", "01"))
# The shortest row that is sent by two tellings takes several codes: "111011".
SEVERAL = (("c", "1"), ("n", "011"), ("a", "01110"), ("b", "1110"), ("p", "10011"))
# The phrases are such that unlike tellings are of one text, and their codes are sent as one row.
ALIKE = (("a", "x"), ("b", "y"), ("ab", "xy"))
SAME_SIGNS = tuple(("q" * many, "q" * (6 - many)) for many in range(1, 6))
MOST = tuple((f"{number:08}", f"{number:05}") for number in range(40))
BOOKS = (PLAIN, ALONE, RESTS, FREE, TWO, SEVERAL, ALIKE, SAME_SIGNS, MOST)

# One of the odd things is a text.
WRONG_TEXTS = [thing for thing in odd_things() if not (type(thing) is str and thing == "a1")] + [
    "A", "a b", " a", "a ", "a\n", "\na", "-", "a-b", "\u00e9", "\u00b2", "\u0661", "a" * 201, ("a",), ["a"], 0, 1,
]


def drawn_book(draw, signs="01", most=6, longest=4):
    """A book drawn by a random.Random; phrases and codes are of these signs."""
    many = draw.randint(1, most)
    phrases, codes = {}, {}
    while len(phrases) < many:
        phrases["".join(draw.choices(signs, k=draw.randint(1, 3)))] = True
    while len(codes) < many:
        codes["".join(draw.choices(signs, k=draw.randint(1, longest)))] = True
    return tuple(zip(draw.sample(sorted(phrases), many), draw.sample(sorted(codes), many)))


def slow_tellings(words, text):
    """All ways to put a text together of words: tuples of their numbers."""
    if text == "":
        return [()]
    return [
        (number,) + rest
        for number, word in enumerate(words) if text.startswith(word)
        for rest in slow_tellings(words, text[len(word):])
    ]


def phrases_of(book):
    return [phrase for phrase, _ in book]


def codes_of(book):
    return [code for _, code in book]


def slow_sent(book, telling):
    """The row as which a telling is sent."""
    return "".join(book[number][1] for number in telling)


def slow_text(book, telling):
    """The text of a telling."""
    return "".join(book[number][0] for number in telling)


def rows_up_to(signs, most):
    """All rows of some signs of at most so many, shorter ones first."""
    rows = [""]
    found = list(rows)
    for _ in range(most):
        rows = [row + sign for row in rows for sign in signs]
        found += rows
    return found


def slow_shortest_two(book, signs, most):
    """The length of a shortest row of at most so many signs that two tellings are sent as, or None."""
    codes = codes_of(book)
    ways = {"": 1}
    for row in rows_up_to(signs, most)[1:]:
        ways[row] = sum(ways[row[:-len(code)]] for code in codes if row.endswith(code))
        if ways[row] > 1:
            return len(row)
    return None


def drawn_books(seed, many, **told):
    """So many drawn books."""
    draw = random.Random(seed)
    return [drawn_book(draw, **told) for _ in range(many)]
