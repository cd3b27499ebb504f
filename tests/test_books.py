"""Promise [10]: books, tellings, what they cost, papers on that, how rows are read."""

import random
import unittest

from tests.books import (
    ALIKE, ALONE, BOOKS, FREE, MOST, PLAIN, SAME_SIGNS, TWO, WRONG_TEXTS, codes_of, drawn_books, phrases_of,
    rows_up_to, slow_sent, slow_tellings, slow_text,
)
from tests.samples import Odd, odd_things
from towerline.books import (
    check_cost, cost_paper, least_cost, many_reads, many_tellings, need_book, reads, sent, telling,
)
from towerline.errors import BadBook, BadPaper, OutOfPlace, TooGreat


class NeedBook(unittest.TestCase):
    def number(self, thing):
        with self.assertRaises(BadBook) as caught:
            need_book(thing)
        return caught.exception.number

    def test_itself(self):
        for book in BOOKS:
            self.assertIs(need_book(book), book)
            self.assertIs(need_book(thing=book), book)
        self.assertEqual(len(MOST), 40)

    def test_no_tuple_of_1_to_40_things(self):
        for thing in (None, (), [], list(PLAIN), "ab", dict(PLAIN), 5, True, Odd(), MOST + (("a", "b"),), (None,) * 41):
            self.assertIsNone(self.number(thing))

    def test_a_pair_that_is_none(self):
        wrong = odd_things() + [
            (), ("a",), ("a", "b", "c"), ["x", "y"], "xy", ("", "y"), ("x", ""), ("x" * 9, "y"), ("x", "y" * 6),
            ("X", "y"), ("x", "Y"), ("x y", "z"), ("x", "y\n"), ("x", 1), (1, "y"), (None, None), ("\u00b2", "y"),
            ("x", "\u0661"), (b"x", "y"), (("x",), "y"), (Odd(), Odd()), ("x-", "y"), ("x", "y/"),
        ]
        for thing in wrong:
            for at in range(len(PLAIN)):
                self.assertEqual(self.number(PLAIN[:at] + (thing,) + PLAIN[at:]), at)
            self.assertEqual(self.number((thing,)), 0)
        self.assertIsNotNone(need_book((("x" * 8, "y" * 5),)))

    def test_what_stood_ahead(self):
        for at in range(len(PLAIN)):
            phrase, code = PLAIN[at]
            self.assertEqual(self.number(PLAIN + ((phrase, "z"),)), len(PLAIN))
            self.assertEqual(self.number(PLAIN + (("z", code),)), len(PLAIN))
            self.assertEqual(self.number(PLAIN[:at + 1] + ((phrase, code),) + PLAIN[at + 1:]), at + 1)
        self.assertIsNotNone(need_book((("a", "b"), ("b", "a"))))

    def test_the_first_one_is_told(self):
        self.assertEqual(self.number((("a", "b"), ("a", "c"), ("d",), ("e", ""))), 1)
        self.assertEqual(self.number((("a", "b"), ("c",), ("a", "b"))), 1)
        self.assertEqual(self.number(MOST[:39] + (MOST[0],)), 39)

    def test_a_wrong_book_is_told_ahead_of_all_else(self):
        for wrong, number in ((PLAIN + (None,), 6), ((), None), (None, None)):
            for call, things in (
                (least_cost, (None,)), (telling, (None,)), (many_tellings, (None,)), (sent, (None,)),
                (cost_paper, (None,)), (check_cost, (None, None)), (check_cost, ("a", None)), (reads, (None,)),
                (many_reads, (None,)), (least_cost, ("a",)), (reads, ("1",)), (sent, ((),)),
            ):
                with self.assertRaises(BadBook) as caught:
                    call(wrong, *things)
                self.assertEqual(caught.exception.number, number)


class Tellings(unittest.TestCase):
    def looked_at(self, book, text):
        """Compare all that is told of a text with all of its tellings."""
        all_of_them = slow_tellings(phrases_of(book), text)
        self.assertEqual(many_tellings(book, text), len(all_of_them))
        if not all_of_them:
            self.assertIsNone(least_cost(book, text))
            self.assertIsNone(telling(book, text))
            self.assertIsNone(cost_paper(book, text))
            return
        cost = min(len(slow_sent(book, one)) for one in all_of_them)
        self.assertEqual(least_cost(book, text), cost)
        told = telling(book, text)
        self.assertIn(told, all_of_them)
        self.assertEqual(len(sent(book, told)), cost)
        paper = cost_paper(book, text)
        self.assertEqual(check_cost(book, text, paper), cost)
        self.assertEqual((telling(book, text), cost_paper(book, text)), (told, paper))

    def test_plain(self):
        for text in rows_up_to("ab", 8):
            self.looked_at(PLAIN, text)
            self.looked_at(ALIKE, text)
            self.looked_at(ALONE, text)
        for text in ("abc", "ca", "cab", "0", "noonebothno", "noon", "qqqqqqq", "00000000" * 2, "0000000"):
            for book in BOOKS:
                self.looked_at(book, text)

    def test_drawn(self):
        for book in drawn_books(10, 120):
            for text in rows_up_to("01", 5) + ["0101101011", "000000000"]:
                self.looked_at(book, text)

    def test_the_empty_text(self):
        for book in BOOKS:
            self.assertEqual(least_cost(book, ""), 0)
            self.assertEqual(telling(book, ""), ())
            self.assertEqual(many_tellings(book, ""), 1)
            self.assertEqual(sent(book, ()), "")
            self.assertEqual(cost_paper(book, ""), ((), (0,)))

    def test_no_telling(self):
        self.assertIsNone(least_cost(PLAIN, "abcab"))
        self.assertIsNone(telling(PLAIN, "abc"))
        self.assertEqual(many_tellings(PLAIN, "cab"), 0)
        self.assertIsNone(cost_paper(text="c", book=PLAIN))

    def test_the_end_of_the_text_is_the_end_of_a_phrase(self):
        book = (("ab", "1"), ("abc", "2"), ("abcd", "3"), ("c", "444"))
        self.assertEqual([many_tellings(book, text) for text in ("a", "ab", "abc", "abcd", "bc", "b")], [0, 1, 2, 1, 0, 0])
        self.assertEqual([least_cost(book, text) for text in ("a", "ab", "abc", "abcd")], [None, 1, 1, 1])

    def test_long_texts(self):
        book = (("a", "1"), ("aa", "2"))
        ways = [1, 1]
        while len(ways) < 201:
            ways.append(ways[-1] + ways[-2])
        self.assertEqual(many_tellings(book, "a" * 200), ways[200])
        self.assertEqual(least_cost(book, "a" * 200), 100)
        self.assertEqual(telling(book, "a" * 200), (1,) * 100)
        self.assertEqual(least_cost(book, "a" * 199), 100)
        self.assertEqual(telling(ALONE, "a" * 200), (0,) * 200)
        self.assertEqual(check_cost(ALONE, "a" * 200, cost_paper(ALONE, "a" * 200)), 200)
        eights = (("a" * 8, "12345"),)
        self.assertEqual(least_cost(eights, "a" * 200), 125)
        self.assertIsNone(least_cost(eights, "a" * 199))

    def test_sent(self):
        self.assertEqual(sent(PLAIN, (0, 1, 5)), "1026")
        self.assertEqual(sent(book=MOST, telling=(39, 0)), "0003900000")
        self.assertEqual(sent(MOST, (7,) * 200), "00007" * 200)
        for thing in [
            (6,), (-1,), (0, 6), (True,), (0, False), ("0",), (0.0,), [0], [], 0, "0", (0,) * 201, ((0,),), (None,),
            (10 ** 999,), (-10 ** 999,), range(2), {0: 1},
        ]:
            self.assertRaises(OutOfPlace, sent, PLAIN, thing)
        for thing in odd_things():
            # One of these things is a telling, of the pairs 1, 2, 3.
            if type(thing) is not tuple or len(thing) != 3:
                self.assertRaises(OutOfPlace, sent, PLAIN, thing)

    def test_texts_that_are_none(self):
        for text in WRONG_TEXTS:
            for call in (least_cost, telling, many_tellings, cost_paper, reads, many_reads):
                self.assertRaises(OutOfPlace, call, PLAIN, text)
            self.assertRaises(OutOfPlace, check_cost, PLAIN, text, ((), (0,)))
            self.assertRaises(OutOfPlace, check_cost, PLAIN, text, None)


def otherwise(row, at, thing):
    """A tuple with another thing at one place."""
    return row[:at] + (thing,) + row[at + 1:]


class CheckCost(unittest.TestCase):
    def part(self, book, text, paper):
        with self.assertRaises(BadPaper) as caught:
            check_cost(book, text, paper)
        return caught.exception.part

    def setUp(self):
        self.text = "abab"
        self.numbers, self.bounds = cost_paper(PLAIN, self.text)

    def test_the_paper_that_is_told(self):
        self.assertEqual(check_cost(PLAIN, self.text, (self.numbers, self.bounds)), 2)
        self.assertEqual(check_cost(book=PLAIN, text="", paper=((), (0,))), 0)
        self.assertEqual((self.numbers, self.bounds), ((2, 2), (0, 1, 1, 2, 2)))

    def test_form(self):
        for paper in odd_things() + [(), ((),), [self.numbers, self.bounds], (self.numbers, self.bounds, 0), "ab"]:
            self.assertEqual(self.part(PLAIN, self.text, paper), "form")

    def test_telling(self):
        for numbers in [
            (), (2,), (2, 2, 2), (0, 1), (2, 0), (0, 3), [2, 2], (2, 6), (-4, 2), (2, None), "22", None, (2.0, 2),
            (0, True, 2), (0,) * 201, ((2, 2),), Odd(),
        ]:
            self.assertEqual(self.part(PLAIN, self.text, (numbers, self.bounds)), "telling")
            # What is wrong with the telling is told ahead of what is wrong with the bounds.
            self.assertEqual(self.part(PLAIN, self.text, (numbers, None)), "telling")
        self.assertEqual(self.part(PLAIN, "", ((2,), (0,))), "telling")

    def test_a_dearer_telling(self):
        for numbers in slow_tellings(phrases_of(PLAIN), self.text):
            cost = len(slow_sent(PLAIN, numbers))
            if cost > 2:
                self.assertEqual(self.part(PLAIN, self.text, (numbers, self.bounds)), "bounds")
                self.assertEqual(self.part(PLAIN, self.text, (numbers, self.bounds[:-1] + (cost,))), "bounds")
            else:
                self.assertEqual(check_cost(PLAIN, self.text, (numbers, self.bounds)), 2)

    def test_bounds_that_are_too_high(self):
        for at in range(5):
            bounds = otherwise(self.bounds, at, self.bounds[at] + 1)
            self.assertEqual(self.part(PLAIN, self.text, (self.numbers, bounds)), "bounds")
        self.assertEqual(self.part(PLAIN, "", ((), (1,))), "bounds")

    def test_lower_bounds(self):
        book = (("a", "1"), ("aa", "2"))
        numbers, bounds = cost_paper(book, "aaaa")
        self.assertEqual(bounds, (0, 1, 1, 2, 2))
        for lower in ((0, 0, 1, 1, 2), (0, 1, 1, 1, 2), (0, 1, 1, 2, 2)):
            self.assertEqual(check_cost(book, "aaaa", (numbers, lower)), 2)
        for wrong in ((0, 1, 1, 0, 2), (-1, 0, 0, 1, 1), (-1, 1, 1, 2, 2), (0, 1, 0, 1, 1), (0, 1, 1, 2, 1)):
            self.assertEqual(self.part(book, "aaaa", (numbers, wrong)), "bounds")
        # Where no phrase leads on, and none leads to, any number will do, or none.
        self.assertEqual(check_cost((("ab", "1"),), "abab", ((0, 0), (0, 10 ** 999, 1, None, 2))), 2)
        self.assertEqual(check_cost((("ab", "1"),), "abab", ((0, 0), (0, None, 1, -10 ** 999, 2))), 2)
        # A place between may be lower; the first one may not, since then the last one would have to be.
        self.assertEqual(check_cost((("ab", "1"), ("a", "2"), ("b", "3")), "ab", ((0,), (0, 0, 1))), 1)
        self.assertEqual(self.part(ALONE, "a", ((0,), (-1, 1))), "bounds")

    def test_the_only_bound_of_the_empty_text(self):
        for bounds in ((-1,), (1,), (None,), (), (0, 0), (False,)):
            self.assertEqual(self.part(PLAIN, "", ((), bounds)), "bounds")
        self.assertEqual(check_cost(PLAIN, "", ((), (0,))), 0)

    def test_wrong_kinds_and_counts(self):
        for at in range(5):
            for thing in (None, True, False, "1", 1.0, (1,), Odd()):
                if not (at == 4 and thing is None):
                    bounds = otherwise(self.bounds, at, thing)
                    self.assertEqual(self.part(PLAIN, self.text, (self.numbers, bounds)), "bounds")
        for bounds in (
            (), self.bounds[:-1], self.bounds + (2,), list(self.bounds), None, "01122", self.bounds[1:], (None,) * 5,
            (None, None, None, None, 2), (0, None, None, None, 2), Odd(), range(5), self.bounds[:-1] + (None,),
        ):
            self.assertEqual(self.part(PLAIN, self.text, (self.numbers, bounds)), "bounds")
        # True is 1 to Python, but no integer.
        self.assertEqual(self.part(ALONE, "a", ((0,), (0, True))), "bounds")
        self.assertEqual(self.part(ALONE, "a", ((0,), (False, 1))), "bounds")

    def test_against_the_words(self):
        draw = random.Random(1010)
        taken = refused = 0
        for book in drawn_books(11, 60, most=4):
            for text in ("0101", "1100", "001", "10"):
                all_of_them = slow_tellings(phrases_of(book), text)
                for numbers in all_of_them:
                    for _ in range(30):
                        bounds = tuple(draw.choice([None, -1, 0, 1, 2, 3, 4]) for _ in text)
                        bounds = (draw.choice([0, 0, 0, -1, 1]),) + bounds
                        paper = (numbers, bounds)
                        cost = len(slow_sent(book, numbers))
                        holds = bounds[0] <= 0 and bounds[-1] == cost and all(
                            bounds[at] is None or bounds[at + len(phrase)] is not None
                            and bounds[at + len(phrase)] <= bounds[at] + len(code)
                            for at in range(len(text)) for phrase, code in book if text.startswith(phrase, at)
                        )
                        if holds:
                            taken += 1
                            self.assertEqual(check_cost(book, text, paper), cost)
                            self.assertEqual(cost, least_cost(book, text))
                        else:
                            refused += 1
                            self.assertEqual(self.part(book, text, paper), "bounds")
        self.assertGreater(min(taken, refused), 20)


class Reads(unittest.TestCase):
    def looked_at(self, book, row):
        """Compare what a row is read as with all tellings that are sent as it."""
        all_of_them = slow_tellings(codes_of(book), row)
        self.assertEqual(many_reads(book, row), len(all_of_them))
        if len(all_of_them) > 100:
            with self.assertRaises(TooGreat) as caught:
                reads(book, row)
            self.assertEqual(caught.exception.most, 100)
        else:
            self.assertEqual(reads(book, row), tuple(sorted({slow_text(book, one) for one in all_of_them})))

    def test_plain(self):
        self.assertEqual(reads(FREE, "0101100"), ("abca",))
        self.assertEqual(reads(FREE, "01"), ())
        self.assertEqual(many_reads(FREE, "1111"), 0)
        self.assertEqual(reads(TWO, "01"), ("both", "noone"))
        self.assertEqual(reads(book=TWO, row="0101"), ("bothboth", "bothnoone", "nooneboth", "noonenoone"))
        self.assertEqual(many_reads(book=TWO, row="0101"), 4)
        self.assertEqual(reads(PLAIN, "x"), ())
        for book in BOOKS:
            self.assertEqual(reads(book, ""), ("",))
            self.assertEqual(many_reads(book, ""), 1)

    def test_unlike_tellings_of_one_text(self):
        self.assertEqual(many_reads(ALIKE, "xyxy"), 4)
        self.assertEqual(reads(ALIKE, "xyxy"), ("abab",))
        self.assertEqual(reads(ALIKE, "x" * 3), ("aaa",))

    def test_drawn(self):
        for book in drawn_books(12, 120):
            for row in rows_up_to("01", 5) + ["0101101011", "000000000000", "01010101010101"]:
                self.looked_at(book, row)

    def test_many(self):
        for book in (TWO, SAME_SIGNS, ALIKE, PLAIN):
            for row in ("01" * 6, "01" * 7, "q" * 6, "q" * 7, "q" * 8, "q" * 9, "xy" * 6, "xy" * 7):
                self.looked_at(book, row)

    def test_100_tellings_and_more(self):
        # One, two, four and five codes lead through the row of ones.
        book = tuple((f"p{many}", "1" * many) for many in (1, 2, 3, 4, 5))
        counts = {row: many_reads(book, "1" * row) for row in range(10)}
        self.assertEqual([counts[row] for row in range(10)], [1, 1, 2, 4, 8, 16, 31, 61, 120, 236])
        self.assertEqual(len(reads(book, "1" * 7)), 61)
        with self.assertRaises(TooGreat) as caught:
            reads(book, "1" * 8)
        self.assertEqual(caught.exception.most, 100)
        # Four ways, and twice five.
        ways = (("a", "00"), ("b", "0"), ("c", "000"), ("d", "1"), ("e", "11"), ("f", "2"))
        self.assertEqual(many_reads(ways, "0000"), 7)
        self.assertEqual([many_reads(ways, "1" * many) for many in range(1, 6)], [1, 2, 3, 5, 8])
        self.assertEqual(many_reads(ways, "000" + "2" + "1111" + "2" + "1111"), 100)
        self.assertEqual(len(reads(ways, "000" + "2" + "1111" + "2" + "1111")), 100)
        self.assertRaises(TooGreat, reads, ways, "000" + "2" + "1111" + "2" + "1111" + "2" + "11")
        self.assertRaises(TooGreat, reads, ways, "0000" + "2" + "1111" + "2" + "111")

    def test_more_than_100_tellings_of_one_text_are_too_many_all_the_same(self):
        self.assertEqual(many_reads(ALIKE, "xy" * 6), 64)
        self.assertEqual(reads(ALIKE, "xy" * 6), ("ab" * 6,))
        self.assertEqual(many_reads(ALIKE, "xy" * 7), 128)
        self.assertRaises(TooGreat, reads, ALIKE, "xy" * 7)

    def test_long_rows(self):
        self.assertEqual(many_reads(TWO, "01" * 100), 2 ** 100)
        self.assertRaises(TooGreat, reads, TWO, "01" * 100)
        self.assertEqual(reads(TWO, "0" * 200), ("no" * 200,))
        # Many ways begin, but none of them leads to the end; and many lead to the end, but none to them.
        self.assertEqual(reads(TWO, "01" * 99 + "2"), ())
        self.assertEqual(reads(TWO, "2" + "01" * 99), ())
        self.assertEqual(many_reads(TWO, "01" * 99 + "2"), 0)
        self.assertEqual(reads(MOST, "00039" * 40), ("00000039" * 40,))
        long = (("a" * 8, "1"), ("b" * 8, "2"), ("c" * 8, "12"))
        self.assertEqual(len(reads(long, "12" * 6 + "1" * 188)), 64)


if __name__ == "__main__":
    unittest.main()
