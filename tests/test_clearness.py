"""Promise [10]: clear books, and the papers on them."""

import random
import unittest

from tests.books import (
    ALIKE, ALONE, BOOKS, FREE, MOST, PLAIN, RESTS, SAME_SIGNS, SEVERAL, TWO, codes_of, drawn_books, slow_sent,
    slow_shortest_two,
)
from tests.samples import Odd, odd_things
from towerline.books import many_reads
from towerline.clearness import check_clear, clear_paper, is_clear
from towerline.errors import BadBook, BadPaper


def book_of(*codes):
    """A book with these codes."""
    return tuple((f"p{number}", code) for number, code in enumerate(codes))


def are_rests(book, thing):
    """Whether a tuple are RESTS, straight by the words of the document."""
    codes = codes_of(book)
    if not all(1 <= len(rest) <= 5 for rest in thing) or any(one >= two for one, two in zip(thing, thing[1:])):
        return False
    wanted = [one[len(two):] for one in codes for two in codes if one != two and one.startswith(two)]
    for rest in thing:
        for code in codes:
            if rest == code:
                return False
            if rest.startswith(code):
                wanted.append(rest[len(code):])
            if code.startswith(rest):
                wanted.append(code[len(rest):])
    return set(wanted) <= set(thing)


CLEAR_BOOKS = (PLAIN, ALONE, RESTS, FREE, MOST, book_of("0", "01", "11"), book_of("10", "100", "1000"))
UNCLEAR_BOOKS = (TWO, SEVERAL, ALIKE, SAME_SIGNS, book_of("a", "aa"), book_of("0", "001", "10"))


class Clearness(unittest.TestCase):
    def looked_at(self, book, signs, most):
        """Compare what is told of a book with all rows of at most so many signs."""
        length = slow_shortest_two(book, signs, most)
        paper = clear_paper(book)
        self.assertEqual(clear_paper(book), paper)
        self.assertEqual(check_clear(book, paper), paper[0])
        self.assertEqual(is_clear(book), paper[0] == "clear")
        if paper[0] == "clear":
            self.assertIsNone(length)
            self.assertTrue(are_rests(book, paper[1]))
            return "clear"
        _, one, other = paper
        self.assertNotEqual(one, other)
        row = slow_sent(book, one)
        self.assertEqual(row, slow_sent(book, other))
        self.assertGreaterEqual(many_reads(book, row[:200]), 2 if len(row) <= 200 else 0)
        if length is None:
            self.assertGreater(len(row), most)
        else:
            self.assertEqual(len(row), length)
        return "two"

    def test_books_that_are_clear(self):
        for book in CLEAR_BOOKS:
            self.assertIs(is_clear(book), True)
            self.assertEqual(clear_paper(book)[0], "clear")
            self.assertEqual(check_clear(book, clear_paper(book)), "clear")
        self.assertEqual(clear_paper(FREE), ("clear", ()))
        self.assertEqual(clear_paper(ALONE), ("clear", ()))
        self.assertEqual(clear_paper(MOST), ("clear", ()))
        self.assertEqual(clear_paper(book=RESTS), ("clear", ("0", "00")))
        self.assertEqual(clear_paper(book_of("0", "01", "11")), ("clear", ("1",)))
        self.assertEqual(clear_paper(book_of("10", "100", "1000")), ("clear", ("0", "00")))

    def test_books_that_are_not(self):
        for book in UNCLEAR_BOOKS:
            self.assertIs(is_clear(book=book), False)
            word, one, other = clear_paper(book)
            self.assertEqual(word, "two")
            self.assertEqual(check_clear(book, (word, other, one)), "two")
        _, one, other = clear_paper(TWO)
        self.assertEqual(sorted((one, other)), [(0, 1), (2,)])
        self.assertEqual(slow_sent(SAME_SIGNS, clear_paper(SAME_SIGNS)[1]), "qq")
        self.assertEqual(slow_sent(ALIKE, clear_paper(ALIKE)[2]), "xy")

    def test_the_shortest(self):
        for book in UNCLEAR_BOOKS:
            self.looked_at(book, "".join(sorted(set("".join(codes_of(book))))), 7)

    def test_drawn(self):
        told = [self.looked_at(book, "01", 11) for book in drawn_books(13, 250, longest=5)]
        told += [self.looked_at(book, "012", 7) for book in drawn_books(14, 150, signs="012", most=9, longest=5)]
        self.assertGreater(told.count("clear"), 60)
        self.assertGreater(told.count("two"), 60)

    def test_rests_are_those_that_are_wanted_alone(self):
        seen = 0
        for book in drawn_books(15, 500, longest=5):
            word, *things = clear_paper(book)
            if word == "clear":
                rests = things[0]
                seen += len(rests) > 1
                for at in range(len(rests)):
                    self.assertFalse(are_rests(book, rests[:at] + rests[at + 1:]))
                # None of them could be left out together with others either.
                wanted = set()
                while True:
                    codes = codes_of(book)
                    more = {one[len(two):] for one in codes for two in codes if one != two and one.startswith(two)}
                    for rest in wanted:
                        more |= {rest[len(code):] for code in codes if rest.startswith(code)}
                        more |= {code[len(rest):] for code in codes if code.startswith(rest)}
                    if more <= wanted:
                        break
                    wanted |= more
                self.assertEqual(rests, tuple(sorted(wanted)))
        self.assertGreater(seen, 20)

    def test_a_long_way_to_two(self):
        for length, codes in (
            (8, ("01010", "0100", "01000", "01", "11", "101")),
            (11, ("1101", "01100", "00110", "1", "10001", "11001")),
            (12, ("01111", "1010", "1110", "10101", "00", "11")),
            (13, ("01010", "101", "10101")),
            (14, ("101", "0010", "0110", "10100", "010")),
        ):
            book = book_of(*codes)
            self.assertEqual(len(slow_sent(book, clear_paper(book)[1])), length)
            self.looked_at(book, "01", length)

    def test_a_book_that_is_none(self):
        for wrong in (None, (), TWO + (None,), TWO + TWO[:1], Odd()):
            self.assertRaises(BadBook, is_clear, wrong)
            self.assertRaises(BadBook, clear_paper, wrong)
            for paper in (None, ("clear", ()), ("two", (0, 1), (2,))):
                self.assertRaises(BadBook, check_clear, wrong, paper)


class CheckClear(unittest.TestCase):
    def part(self, book, paper):
        with self.assertRaises(BadPaper) as caught:
            check_clear(book, paper)
        return caught.exception.part

    def test_form(self):
        wrong = odd_things() + [
            (), ("two",), ("clear",), ("two", (0, 1)), ("clear", (), ()), ("two", (0,), (1,), (2,)), ("clea", ()),
            ("Two", (0, 1), (2,)), ["clear", ()], ["two", (0, 1), (2,)], ("clear", (), None), (b"clear", ()),
            (Odd(), ()), (Odd(), (0, 1), (2,)), ("sound", ()), ((), "clear"), "clear", "two", ("two", None),
        ]
        for paper in wrong:
            self.assertEqual(self.part(TWO, paper), "form")
            self.assertEqual(self.part(FREE, paper), "form")

    def test_two(self):
        self.assertEqual(check_clear(TWO, ("two", (0, 1), (2,))), "two")
        self.assertEqual(check_clear(book=TWO, paper=("two", (2,), (0, 1))), "two")
        # They may be longer than is needed, begin alike, and end alike.
        self.assertEqual(check_clear(TWO, ("two", (0, 0, 1), (0, 2))), "two")
        self.assertEqual(check_clear(TWO, ("two", (2, 2, 1), (0, 1, 2, 1))), "two")
        self.assertEqual(check_clear(TWO, ("two", (0, 1) * 100, (2,) * 100)), "two")
        self.assertEqual(check_clear(TWO, ("two", (0,) * 198 + (2,), (0,) * 199 + (1,))), "two")
        self.assertEqual(check_clear(ALIKE, ("two", (0, 1), (2,))), "two")

    def test_two_that_are_none(self):
        wrong = [
            ((0, 1), (0, 1)), ((), ()), ((2,), (2,)), ((0, 1), (1, 0)), ((0, 1), (0,)), ((0, 1), ()), ((0, 1), (3,)),
            ((0, 1), (-1,)), ((0, True), (2,)), ((False, 1), (2,)), ([0, 1], (2,)), ((0, 1), [2]), ("01", (2,)),
            ((0, 1), 2), (None, None), ((0, 1), None), (Odd(), Odd()), ((0, 1, 1), (2,)), ((0.0, 1), (2,)),
            ((0, 1) * 101, (2,) * 101), ((0, 1), (2, 2)), ((0, "1"), (2,)), ((0, (1,)), (2,)), ((10 ** 999,), (2,)),
        ]
        for one, other in wrong:
            self.assertEqual(self.part(TWO, ("two", one, other)), "two")
            self.assertEqual(self.part(TWO, ("two", other, one)), "two")
        for book in CLEAR_BOOKS:
            self.assertEqual(self.part(book, ("two", (0,), (0, 0))), "two")

    def test_clear(self):
        self.assertEqual(check_clear(RESTS, ("clear", ("0", "00"))), "clear")
        self.assertEqual(check_clear(book=FREE, paper=("clear", ())), "clear")
        # One more that no code begins with, and that begins with none, leads nowhere.
        self.assertEqual(check_clear(RESTS, ("clear", ("0", "00", "z"))), "clear")
        self.assertEqual(check_clear(RESTS, ("clear", ("0", "00", "000", "zzzzz"))), "clear")
        self.assertEqual(check_clear(FREE, ("clear", ("2", "22"))), "clear")
        # Those to which one more leads have to be there, too.
        self.assertEqual(check_clear(book_of("01"), ("clear", ("0", "1"))), "clear")
        self.assertEqual(self.part(book_of("01"), ("clear", ("0",))), "clear")
        self.assertEqual(check_clear(book_of("01"), ("clear", ("012", "2"))), "clear")
        self.assertEqual(self.part(book_of("01"), ("clear", ("012",))), "clear")
        self.assertEqual(self.part(book_of("01"), ("clear", ("0101",))), "clear")

    def test_rests_that_are_none(self):
        rests = ("0", "00")
        wrong = [
            (), ("0",), ("00",), ("00", "0"), ("0", "0", "00"), ("0", "00", "00"), ["0", "00"], "0", "000", None, 0,
            ("", "0", "00"), ("0", "00", ""), ("0", "00", "zzzzzz"), ("0", "00", "Z"), ("0", "00", 5), ("0", "00", None),
            ("0", "00", ("z",)), (" ", "0", "00"), ("0", "00", "\u00e9"), {"0": 1, "00": 1}, Odd(), (Odd(),), range(2),
            ("0", "00", Odd()), (0, 0), (b"0", b"00"), ("-", "0", "00"), ("0", "00", "z\n"),
        ]
        for thing in wrong:
            self.assertEqual(self.part(RESTS, ("clear", thing)), "clear")
        # One that is a code, and ones that lead on.
        for more in ("1", "10", "100", "1000", "1z", "10z", "11", "100z0"):
            thing = tuple(sorted(rests + (more,)))
            self.assertEqual(self.part(RESTS, ("clear", thing)), "clear")
        for book in UNCLEAR_BOOKS:
            self.assertEqual(self.part(book, ("clear", ())), "clear")
            self.assertEqual(self.part(book, ("clear", rests)), "clear")

    def test_against_the_words(self):
        draw = random.Random(1313)
        words = ["0", "1", "00", "01", "10", "11", "000", "001", "011", "110", "0000", "1111", "01010"]
        taken = refused = 0
        for book in drawn_books(17, 400, most=4, longest=4):
            base = clear_paper(book)[1] if is_clear(book) else ()
            for _ in range(6):
                thing = set(base) | set(draw.sample(words, draw.randint(0, 2)))
                if draw.random() < 0.3 and thing:
                    thing.discard(draw.choice(sorted(thing)))
                thing = tuple(sorted(thing))
                if are_rests(book, thing):
                    taken += 1
                    self.assertEqual(check_clear(book, ("clear", thing)), "clear")
                    self.assertTrue(is_clear(book))
                else:
                    refused += 1
                    self.assertEqual(self.part(book, ("clear", thing)), "clear")
        self.assertGreater(min(taken, refused), 200)

    def test_all_books_have_one_of_both(self):
        for book in BOOKS + CLEAR_BOOKS + UNCLEAR_BOOKS:
            self.assertEqual(check_clear(book, clear_paper(book)), "clear" if is_clear(book) else "two")


if __name__ == "__main__":
    unittest.main()
