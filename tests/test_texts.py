"""Promise [15]: the texts of roads and books, and what can not be read as one."""

import inspect
import random
import unittest

from tests import books, roads
from tests.samples import Odd, odd_things
from towerline.books import need_book
from towerline.errors import BadBook, BadRoad, BadText
from towerline.texts import book_text, read_book, read_road, road_text
from towerline.times import need_road

ROAD_TEXT = "0 2 1\n1 3 1\n2 1 4"
BOOK_TEXT = "a 1\nb 02\nab 3\nba 04\naba 55555\nbb 6"
NO_STRINGS = [thing for thing in odd_things() if not isinstance(thing, str)] + [5, ("0 1 0",), ["0 1 0"], Odd()]


class TextTest(unittest.TestCase):
    def line(self, read, string):
        with self.assertRaises(BadText) as caught:
            read(string)
        return caught.exception.line


class Texts(TextTest):
    def test_arguments(self):
        for call, name in ((road_text, "road"), (book_text, "book"), (read_road, "string"), (read_book, "string")):
            self.assertEqual(str(inspect.signature(call)), f"({name})")
            self.assertEqual(call.__module__, "towerline.texts")

    def test_plain(self):
        self.assertEqual(road_text(roads.PLAIN), ROAD_TEXT)
        self.assertEqual(read_road(ROAD_TEXT), roads.PLAIN)
        self.assertEqual(book_text(book=books.PLAIN), BOOK_TEXT)
        self.assertEqual(read_book(string=BOOK_TEXT), books.PLAIN)
        self.assertEqual(road_text(road=roads.LEAST), "0 1 0")
        self.assertEqual(read_road(string="1000 1000 1000"), ((1000, 1000, 1000),))

    def test_there_and_back(self):
        draw = random.Random(15)
        for road in roads.ROADS + tuple(roads.drawn_road(draw, 40) for _ in range(40)):
            text = road_text(road)
            self.assertEqual(text, "\n".join(" ".join(map(str, triple)) for triple in road))
            self.assertEqual(read_road(text), road)
            self.assertIsNotNone(need_road(read_road(text)))
        for book in books.BOOKS + tuple(books.drawn_books(15, 40)):
            text = book_text(book)
            self.assertEqual(text, "\n".join(" ".join(pair) for pair in book))
            self.assertEqual(read_book(text), book)
            self.assertIsNotNone(need_book(read_book(text)))

    def test_what_is_no_road_and_no_book(self):
        for thing in (None, (), ROAD_TEXT, roads.PLAIN + (None,), Odd()):
            self.assertRaises(BadRoad, road_text, thing)
        for thing in (None, (), BOOK_TEXT, books.PLAIN + books.PLAIN[:1], Odd()):
            self.assertRaises(BadBook, book_text, thing)

    def test_what_is_no_string(self):
        for thing in NO_STRINGS:
            self.assertEqual(self.line(read_road, thing), 0)
            self.assertEqual(self.line(read_book, thing), 0)

    def test_the_empty_string_and_empty_rows(self):
        for read, text in ((read_road, ROAD_TEXT), (read_book, BOOK_TEXT)):
            rows = len(text.split("\n"))
            self.assertEqual(self.line(read, ""), 1)
            self.assertEqual(self.line(read, "\n"), 1)
            self.assertEqual(self.line(read, "\n" + text), 1)
            self.assertEqual(self.line(read, text + "\n"), rows + 1)
            self.assertEqual(self.line(read, text.replace("\n", "\n\n", 1)), 2)
            self.assertEqual(self.line(read, "\n" * 20000), 1)

    def test_other_signs_between_rows(self):
        for sign in ("\r", "\r\n", "\x0b", "\x0c", "\x1c", "\x85", "\u2028", " "):
            self.assertEqual(self.line(read_road, ROAD_TEXT.replace("\n", sign)), 1)
            self.assertEqual(self.line(read_book, BOOK_TEXT.replace("\n", sign)), 1)

    def test_the_first_row_is_told(self):
        self.assertEqual(self.line(read_road, "0 1 0\n0 0 0\n\nx"), 2)
        self.assertEqual(self.line(read_book, "a b\na c\nb\n"), 2)


class Roads(TextTest):
    def test_rows_that_can_not_stand(self):
        wrong = [
            "", " ", "0", "0 1", "0 1 0 0", "0  1 0", "0 1  0", " 0 1 0", "0 1 0 ", "0\t1\t0", "0,1,0", "00 1 0",
            "01 1 0", "0 01 0", "0 1 00", "0 1 01", "+0 1 0", "0 +1 0", "-0 1 0", "-1 1 0", "0 -1 0", "0 1 -1", "0 0 0",
            "1001 1 0", "0 1001 0", "0 1 1001", "9999 1 0", "10000 1 0", "0 1" + "0" * 5000 + " 0", "9" * 19000 + " 1 0",
            "1_0 1 0", "0 1.0 0", "1e1 1 0", "a 1 0", "0 b 0", "0 1 c", "\u0660 1 0", "\u00b2 1 0", "0 \u0661 0", "0x1 1 0",
            "\u00a00 1 0", "0 1 0\r", "0 1 \ud800", "(0, 1, 0)",
        ]
        for row in wrong:
            self.assertEqual(self.line(read_road, row), 1)
            for number in (1, 2, 3):
                rows = ROAD_TEXT.split("\n")
                self.assertEqual(self.line(read_road, "\n".join(rows[:number] + [row] + rows[number:])), number + 1)

    def test_numbers_at_the_bounds(self):
        for row in ("0 1 0", "1000 1000 1000", "0 1000 999", "10 100 7"):
            self.assertEqual(read_road(row), (tuple(int(word) for word in row.split()),))

    def test_like_rows_may_stand(self):
        self.assertEqual(read_road("1 1 1\n1 1 1"), ((1, 1, 1), (1, 1, 1)))

    def test_the_41st_row(self):
        self.assertEqual(len(read_road("\n".join(["0 1 0"] * 40))), 40)
        self.assertEqual(self.line(read_road, "\n".join(["0 1 0"] * 41)), 41)
        self.assertEqual(self.line(read_road, "\n".join(["0 1 0"] * 50)), 41)
        self.assertEqual(self.line(read_road, "\n".join(["0 1 0"] * 39 + ["0 0 0"] * 2)), 40)
        self.assertEqual(self.line(read_road, "\n".join(["0 1 0"] * 40) + "\n"), 41)


class Books(TextTest):
    def test_rows_that_can_not_stand(self):
        wrong = [
            "", " ", "x", "x y z", "x  y", " x y", "x y ", "x\ty", "x,y", "X y", "x Y", "x-z y", "x y-", "x" * 9 + " y",
            "x " + "y" * 6, " y", "x ", "\u00e9 y", "x \u00b2", "x \u0661", "x y\r", "x " + "y" * 19000, "\u00a0x y",
        ]
        for row in wrong:
            self.assertEqual(self.line(read_book, row), 1)
            for number in (1, 3, 6):
                rows = BOOK_TEXT.split("\n")
                self.assertEqual(self.line(read_book, "\n".join(rows[:number] + [row] + rows[number:])), number + 1)
        self.assertEqual(read_book("x" * 8 + " " + "y" * 5), (("x" * 8, "y" * 5),))

    def test_what_stood_already(self):
        for number, (phrase, code) in enumerate(books.PLAIN):
            self.assertEqual(self.line(read_book, f"{BOOK_TEXT}\n{phrase} zz"), 7)
            self.assertEqual(self.line(read_book, f"{BOOK_TEXT}\nzz {code}"), 7)
            rows = BOOK_TEXT.split("\n")
            self.assertEqual(self.line(read_book, "\n".join(rows[:number + 1] + rows[number:])), number + 2)
        self.assertEqual(read_book("a b\nb a"), (("a", "b"), ("b", "a")))

    def test_the_41st_row(self):
        rows = [f"{phrase} {code}" for phrase, code in books.MOST]
        self.assertEqual(len(read_book("\n".join(rows))), 40)
        self.assertEqual(self.line(read_book, "\n".join(rows + ["x y"])), 41)
        self.assertEqual(self.line(read_book, "\n".join(rows + ["x y", ""])), 41)
        self.assertEqual(self.line(read_book, "\n".join(rows[:39] + ["", "x y"])), 40)


class AnyString(TextTest):
    def test_no_other_error(self):
        draw = random.Random(1616)
        read = 0
        for _ in range(4000):
            base = draw.choice([ROAD_TEXT, BOOK_TEXT, "0 1 0", "a b"])
            signs = list(base)
            for _ in range(draw.randint(0, 3)):
                at = draw.randrange(len(signs) + 1)
                signs[at:at + draw.randint(0, 1)] = draw.choice(" \n01aZ-.\t\u0661\u00b2") * draw.randint(0, 2)
            string = "".join(signs)
            for call, back in ((read_road, road_text), (read_book, book_text)):
                try:
                    found = call(string)
                except BadText as error:
                    self.assertTrue(1 <= error.line <= string.count("\n") + 1)
                else:
                    read += 1
                    self.assertEqual(back(found), string)
        self.assertGreater(read, 500)


if __name__ == "__main__":
    unittest.main()
