"""Promise [1], and the interface of part two: names, arguments, the order of the checks, kinds of results."""

import copy
import inspect
import unittest

from tests.samples import Odd
from towerline import arms, books, chains, clearness, fog, texts, times
from towerline.chains import Chain
from towerline.errors import BadAlphabet, BadBook, BadPaper, BadRoad, BadText, OutOfPlace, TooGreat

ALPHABET = (2, (("a", (0, 1)), ("b", (0, 7)), ("c", (3, 3))))
BOOK = (("no", "0"), ("one", "1"), ("both", "01"))
ROAD = ((0, 2, 1), (1, 3, 1), (2, 1, 4))

# For each name of an argument: a right one, wrong ones, the error of these.
ALPHABETS = (ALPHABET, (None, (4, ALPHABET[1]), [2, ALPHABET[1]], Odd()), BadAlphabet)
BOOKS = (BOOK, (None, (), BOOK + BOOK[:1], list(BOOK), Odd()), BadBook)
ROADS = (ROAD, (None, (), ROAD + (None,), list(ROAD), Odd()), BadRoad)
LETTERS = ("b", (None, "", "x", "ab", 5, ["a"], Odd()), OutOfPlace)
ALPHABET_TEXTS = ("abca", (None, "abx", "a" * 201, 5, ["a"], Odd()), OutOfPlace)
TEXTS = ("noone", (None, "A", "a" * 201, 5, ["a"], b"a", Odd()), OutOfPlace)
ROWS = ("0101", (None, "A", "0" * 201, 5, ["0"], b"0", Odd()), OutOfPlace)
TOWERS = (1, (None, -1, 3, True, "1", 1.0, Odd()), OutOfPlace)
GREAT = (5, (None, -1, 10 ** 30 + 1, True, "1", 1.0, Odd()), OutOfPlace)
FOG_ROWS = ("abca", (None, "A", "a" * 61, 5, ["a"], b"a", Odd()), OutOfPlace)
COUNTS = (3, (None, -1, 301, True, "1", 1.0, Odd()), OutOfPlace)
STRINGS = (None, "x", "\n", 5, b"a b", ["a b"], Odd())

# The modules, their functions, the arguments of these, the kind of what they return.
INTERFACE = {
    arms: {
        "need_alphabet": ({"thing": ALPHABETS}, tuple),
        "seen": ({"alphabet": ALPHABETS, "letter": LETTERS}, tuple),
        "letter_seen": (
            {"alphabet": ALPHABETS, "directions": ((0, 7), (None, (), (7, 0), [0], (True,), Odd()), OutOfPlace)}, str,
        ),
        "behind": ({"alphabet": ALPHABETS, "letter": LETTERS}, str),
        "read_behind": ({"alphabet": ALPHABETS, "text": ALPHABET_TEXTS}, type(None)),
        "move": ({"alphabet": ALPHABETS, "one": LETTERS, "other": LETTERS}, int),
        "work": ({"alphabet": ALPHABETS, "text": ALPHABET_TEXTS}, int),
    },
    books: {
        "need_book": ({"thing": BOOKS}, tuple),
        "least_cost": ({"book": BOOKS, "text": TEXTS}, int),
        "telling": ({"book": BOOKS, "text": TEXTS}, tuple),
        "many_tellings": ({"book": BOOKS, "text": TEXTS}, int),
        "sent": ({"book": BOOKS, "telling": ((0, 2), (None, (3,), [0], (True,), "0", Odd()), OutOfPlace)}, str),
        "cost_paper": ({"book": BOOKS, "text": TEXTS}, tuple),
        "check_cost": (
            {
                "book": BOOKS, "text": TEXTS,
                "paper": (((0, 1), (0, None, 1, None, None, 2)), (None, (), ((), ()), Odd()), BadPaper),
            },
            int,
        ),
        "reads": ({"book": BOOKS, "row": ROWS}, tuple),
        "many_reads": ({"book": BOOKS, "row": ROWS}, int),
    },
    clearness: {
        "is_clear": ({"book": BOOKS}, bool),
        "clear_paper": ({"book": BOOKS}, tuple),
        "check_clear": (
            {"book": BOOKS, "paper": (("two", (0, 1), (2,)), (None, (), ("two",), ("clear", ()), Odd()), BadPaper)}, str,
        ),
    },
    times: {
        "need_road": ({"thing": ROADS}, tuple),
        "when": ({"road": ROADS, "tower": TOWERS, "sign": GREAT}, int),
        "pace": ({"road": ROADS}, int),
        "lag": ({"road": ROADS}, int),
        "shown": ({"road": ROADS, "tower": TOWERS, "moment": GREAT}, int),
        "like_when": (
            {
                "triple": ((0, 2, 1), (None, (0, 0, 0), (0, 1), [0, 2, 1], Odd()), OutOfPlace),
                "many": (3, (None, 0, True, 10 ** 30 + 1, Odd()), OutOfPlace),
                "tower": TOWERS, "sign": GREAT,
            },
            int,
        ),
        "slowest": ({"road": ROADS}, tuple),
    },
    fog: {
        "can_come": (
            {"row": FOG_ROWS, "sent": ("abcabc", (None, "A", "a" * 121, 5, ["a"], b"a", Odd()), OutOfPlace)}, bool,
        ),
        "many_sent": (
            {"letters": (26, (None, 0, 41, True, "1", Odd()), OutOfPlace), "length": COUNTS, "signs": COUNTS}, int,
        ),
        "least_one": ({"row": FOG_ROWS, "other": FOG_ROWS}, int),
        "one_row": ({"row": FOG_ROWS, "other": FOG_ROWS}, str),
        "row_paper": ({"row": FOG_ROWS, "other": FOG_ROWS}, tuple),
        "check_row": (
            {
                "row": FOG_ROWS, "other": FOG_ROWS,
                "paper": (fog.row_paper("abca", "abca"), (None, (), ("abca",), ("abca", ()), Odd()), BadPaper),
            },
            int,
        ),
    },
    chains: {
        "under": (
            {"chain": (Chain(ROAD), (None, (), ROAD, Odd()), OutOfPlace), "deed": (len, (None, 5, "a", ()), OutOfPlace)},
            int,
        ),
    },
    texts: {
        "road_text": ({"road": ROADS}, str),
        "book_text": ({"book": BOOKS}, str),
        "read_road": ({"string": ("0 1 0", STRINGS, BadText)}, tuple),
        "read_book": ({"string": ("a b", STRINGS, BadText)}, tuple),
    },
}
FUNCTIONS = [
    (module, getattr(module, name), things, kind)
    for module, told in INTERFACE.items() for name, (things, kind) in told.items()
]


def caught(function, things):
    """The error that a call raises."""
    try:
        function(**things)
    except Exception as error:
        return error
    return None


class Interface(unittest.TestCase):
    def test_names_and_arguments(self):
        for module, function, things, _ in FUNCTIONS:
            self.assertTrue(inspect.isfunction(function))
            self.assertEqual(function.__module__, module.__name__)
            parameters = inspect.signature(function).parameters
            self.assertEqual(list(parameters), list(things))
            for parameter in parameters.values():
                self.assertIs(parameter.kind, parameter.POSITIONAL_OR_KEYWORD)
                self.assertIs(parameter.default, parameter.empty)

    def test_equal_calls_by_position_and_by_name_return_the_same_one(self):
        for _, function, things, kind in FUNCTIONS:
            good = {name: told[0] for name, told in things.items()}
            before = copy.deepcopy(good)
            first = function(*good.values())
            self.assertIs(type(first), kind, function)
            self.assertEqual(function(**good), first)
            self.assertEqual(function(**dict(reversed(copy.deepcopy(good).items()))), first)
            self.assertEqual(good, before)


class Order(unittest.TestCase):
    def test_each_argument_is_refused(self):
        for _, function, things, _ in FUNCTIONS:
            good = {name: told[0] for name, told in things.items()}
            for name, (_, wrongs, error) in things.items():
                for wrong in wrongs:
                    with self.subTest(function=function.__name__, name=name, wrong=type(wrong)):
                        self.assertIs(type(caught(function, {**good, name: wrong})), error)

    def test_the_one_further_left_is_told(self):
        for _, function, things, _ in FUNCTIONS:
            good = {name: told[0] for name, told in things.items()}
            names = list(things)
            for at, name in enumerate(names):
                for wrong in things[name][1]:
                    alone = caught(function, {**good, name: wrong})
                    for other in names[at + 1:]:
                        for second in things[other][1]:
                            told = caught(function, {**good, other: second, name: wrong})
                            self.assertIs(type(told), type(alone))
                            # The wording is free, but it is of this argument.
                            self.assertEqual(str(told), str(alone))

    def test_all_wrong(self):
        for _, function, things, _ in FUNCTIONS:
            first = list(things.values())[0][2]
            for wrong in (None, Odd(), [], {}):
                self.assertIs(type(caught(function, {name: wrong for name in things})), first)

    def test_the_fields_of_errors(self):
        self.assertEqual(caught(arms.work, {"alphabet": (4, ()), "text": None}).part, "arms")
        self.assertEqual(caught(books.reads, {"book": BOOK[:2] + BOOK, "row": None}).number, 2)
        self.assertEqual(caught(times.lag, {"road": ROAD + ((0, 0, 0),)}).number, 3)
        self.assertIsNone(caught(times.lag, {"road": ()}).number)

    def test_arguments_are_checked_ahead_of_what_is_too_great(self):
        self.assertRaises(TooGreat, books.reads, BOOK, "01" * 7)
        self.assertRaises(OutOfPlace, books.reads, BOOK, "01" * 101)
        self.assertRaises(OutOfPlace, books.reads, BOOK, "01" * 7 + "A")


if __name__ == "__main__":
    unittest.main()
