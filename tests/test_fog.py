"""Promise [13]: rows that come of rows in fog, MANY SENT, the LEAST ONE and its papers."""

import itertools
import random
import unittest

from tests.books import rows_up_to
from tests.samples import Odd, odd_things
from towerline.errors import BadPaper, OutOfPlace
from towerline.fog import can_come, check_row, least_one, many_sent, one_row, row_paper

# One of the odd things is a row.
WRONG_ROWS = [thing for thing in odd_things() if not (type(thing) is str and thing == "a1")] + [
    "A", "a b", "a\n", " ", "-", "\u00e9", "\u00b2", ("a",), ["a"], 5, ("a", "b"),
]
SIGNS = "0123456789abcdefghijklmnopqrstuvwxyz"


def slow_comes(row, sent):
    """Whether a row comes of another one, by leaving out signs in all ways."""
    return any("".join(kept) == row for kept in itertools.combinations(sent, len(row)))


def slow_least(row, other, known=None):
    """The LEAST ONE, by which sign is the first one of a shortest row."""
    known = {} if known is None else known
    if row == "" or other == "":
        return len(row) + len(other)
    if (row, other) not in known:
        if row[0] == other[0]:
            known[row, other] = 1 + slow_least(row[1:], other[1:], known)
        else:
            known[row, other] = 1 + min(slow_least(row[1:], other, known), slow_least(row, other[1:], known))
    return known[row, other]


def drawn_row(draw, signs="ab", most=9):
    return "".join(draw.choices(signs, k=draw.randint(0, most)))


class CanCome(unittest.TestCase):
    def test_plain(self):
        self.assertIs(can_come("", ""), True)
        self.assertIs(can_come("", "abc"), True)
        self.assertIs(can_come("abc", "abc"), True)
        self.assertIs(can_come("ac", "abc"), True)
        self.assertIs(can_come("ca", "abc"), False)
        self.assertIs(can_come("abcd", "abc"), False)
        self.assertIs(can_come("a", ""), False)
        self.assertIs(can_come("aa", "a"), False)
        self.assertIs(can_come(row="aa", sent="aba"), True)
        self.assertIs(can_come("d", "abc"), False)

    def test_all_small_rows(self):
        rows = rows_up_to("ab", 5)
        for row in rows:
            for sent in rows:
                self.assertEqual(can_come(row, sent), slow_comes(row, sent))

    def test_limits(self):
        self.assertIs(can_come("a" * 60, "a" * 60), True)
        self.assertIs(can_come("a" * 60, "ab" * 60), True)
        self.assertIs(can_come("a" * 60, "a" * 59 + "b" * 61), False)
        self.assertRaises(OutOfPlace, can_come, "a" * 61, "a" * 61)
        self.assertRaises(OutOfPlace, can_come, "a" * 60, "a" * 121)
        self.assertRaises(OutOfPlace, can_come, "", "a" * 121)
        for thing in WRONG_ROWS:
            self.assertRaises(OutOfPlace, can_come, thing, "a")
            self.assertRaises(OutOfPlace, can_come, "a", thing)


class ManySent(unittest.TestCase):
    def test_all_rows(self):
        for letters in (1, 2, 3):
            for signs in range(6):
                rows = ["".join(row) for row in itertools.product("abc"[:letters], repeat=signs)]
                for length in range(7):
                    told = many_sent(letters, length, signs)
                    # It hangs on the length of the row alone.
                    for row in ("a" * length, ("abc"[:letters] * 7)[:length]):
                        self.assertEqual(told, sum(slow_comes(row, sent) for sent in rows))

    def test_by_the_first_sign(self):
        # Of all rows the first sign is the first one that is wanted, or any of the other letters.
        for letters in (1, 2, 5, 40):
            for signs in range(1, 12):
                for length in range(1, 13):
                    self.assertEqual(
                        many_sent(letters, length, signs),
                        many_sent(letters, length - 1, signs - 1) + (letters - 1) * many_sent(letters, length, signs - 1),
                    )

    def test_edges(self):
        self.assertEqual(many_sent(40, 0, 300), 40 ** 300)
        self.assertEqual(many_sent(40, 300, 300), 1)
        self.assertEqual(many_sent(letters=40, length=299, signs=300), 1 + 300 * 39)
        self.assertEqual(many_sent(1, 300, 300), 1)
        self.assertEqual(many_sent(1, 5, 300), 1)
        self.assertEqual(many_sent(1, 0, 0), 1)
        self.assertEqual(many_sent(7, 0, 0), 1)
        self.assertEqual(many_sent(7, 1, 0), 0)
        self.assertEqual(many_sent(7, 300, 299), 0)
        self.assertEqual(many_sent(1, 2, 1), 0)
        self.assertEqual(many_sent(36, 1, 1), 1)
        self.assertEqual(many_sent(36, 1, 2), 36 + 35)
        # Either fewer than 150 places have the sign, or 150 at least: of two letters there is one place more.
        self.assertEqual(many_sent(2, 150, 299) * 2, 2 ** 299)

    def test_what_is_none(self):
        for thing in [0, -1, 41, True, "1", 1.0] + odd_things():
            self.assertRaises(OutOfPlace, many_sent, thing, 1, 1)
        for thing in [-1, 301, True, False, "1", 1.0] + odd_things():
            self.assertRaises(OutOfPlace, many_sent, 2, thing, 1)
            self.assertRaises(OutOfPlace, many_sent, 2, 1, thing)
            self.assertRaises(OutOfPlace, many_sent, 2, 300, thing)


class LeastOne(unittest.TestCase):
    def looked_at(self, row, other):
        least = slow_least(row, other)
        self.assertEqual(least_one(row, other), least)
        told = one_row(row, other)
        self.assertEqual(len(told), least)
        self.assertTrue(can_come(row, told) and can_come(other, told))
        self.assertEqual(one_row(row, other), told)
        paper = row_paper(row, other)
        self.assertEqual(paper, row_paper(row, other))
        self.assertEqual(check_row(row, other, paper), least)
        self.assertEqual([len(paper[1])] + [len(numbers) for numbers in paper[1]],
                         [len(row) + 1] + [len(other) + 1] * (len(row) + 1))

    def test_plain(self):
        self.assertEqual(least_one("", ""), 0)
        self.assertEqual(one_row("", ""), "")
        self.assertEqual(row_paper("", ""), ("", ((0,),)))
        self.assertEqual(one_row("abc", ""), "abc")
        self.assertEqual(one_row("", "abc"), "abc")
        self.assertEqual(one_row("abc", "abc"), "abc")
        self.assertEqual(least_one("abc", "xyz"), 6)
        self.assertEqual(least_one(row="ab", other="ba"), 3)
        self.assertIn(one_row(row="ab", other="ba"), ("aba", "bab"))
        self.assertEqual(least_one("abcbdab", "bdcaba"), 9)
        self.assertEqual(row_paper("a", "a"), ("a", ((0, 1), (1, 1))))

    def test_all_small_rows(self):
        rows = rows_up_to("ab", 4)
        for row in rows:
            for other in rows:
                self.looked_at(row, other)

    def test_no_row_is_shorter(self):
        rows = rows_up_to("ab", 3)
        all_rows = rows_up_to("ab", 6)
        for row in rows:
            for other in rows:
                shortest = next(one for one in all_rows if can_come(row, one) and can_come(other, one))
                self.assertEqual(least_one(row, other), len(shortest))

    def test_drawn_and_long(self):
        draw = random.Random(13)
        for _ in range(150):
            self.looked_at(drawn_row(draw, "abc", 12), drawn_row(draw, "abc", 12))
        for signs in ("a", "ab", SIGNS):
            self.looked_at("".join(draw.choices(signs, k=60)), "".join(draw.choices(signs, k=60)))
        self.assertEqual(least_one("a" * 60, "b" * 60), 120)
        self.looked_at("a" * 60, "b" * 60)

    def test_rows_that_are_none(self):
        for thing in WRONG_ROWS + ["a" * 61]:
            for call in (least_one, one_row, row_paper):
                self.assertRaises(OutOfPlace, call, thing, "a")
                self.assertRaises(OutOfPlace, call, "a", thing)
            self.assertRaises(OutOfPlace, check_row, thing, "a", None)
            self.assertRaises(OutOfPlace, check_row, "a", thing, None)


def otherwise(row, at, thing):
    """A tuple with another thing at one place."""
    return row[:at] + (thing,) + row[at + 1:]


class CheckRow(unittest.TestCase):
    def part(self, row, other, paper):
        with self.assertRaises(BadPaper) as caught:
            check_row(row, other, paper)
        return caught.exception.part

    def setUp(self):
        self.rows = ("abca", "bcab")
        self.one, self.table = row_paper(*self.rows)

    def test_the_paper_that_is_told(self):
        self.assertEqual(check_row(*self.rows, (self.one, self.table)), 5)
        self.assertEqual(check_row(row="", other="", paper=("", ((0,),))), 0)
        self.assertEqual(self.one, "abcab")

    def test_form(self):
        for paper in odd_things() + [(), (self.one,), [self.one, self.table], (self.one, self.table, 0), "ab"]:
            self.assertEqual(self.part(*self.rows, paper), "form")

    def test_row(self):
        for one in [
            "", "abca", "bcab", "acbab", "abcba", "bcaba", None, 5, b"abcab", list("abcab"), tuple("abcab"), "abcabA",
            "abcab ", "abcab\n", "\u00e9abcab", "abcab" + "a" * 116, Odd(), True,
        ]:
            self.assertEqual(self.part(*self.rows, (one, self.table)), "row")
            # What is wrong with the row is told ahead of what is wrong with the table.
            self.assertEqual(self.part(*self.rows, (one, None)), "row")
        self.assertEqual(self.part("", "", ("a" * 121, ((0,),))), "row")

    def test_another_row(self):
        # Both can come of these, but they are longer than is needed.
        for one in ("abcaab", "zabcab", "abcabz", "abcab" + "a" * 115):
            self.assertEqual(self.part(*self.rows, (one, self.table)), "table")
            longer = self.table[:-1] + (self.table[-1][:-1] + (len(one),),)
            self.assertEqual(self.part(*self.rows, (one, longer)), "table")
        # Another one that is as short does as well.
        _, table = row_paper("ab", "ba")
        self.assertEqual(check_row("ab", "ba", ("aba", table)), 3)
        self.assertEqual(check_row("ab", "ba", ("bab", table)), 3)

    def test_a_number_that_is_too_great(self):
        for row, other in (self.rows, ("aab", "abab"), ("ab", "cd"), ("a", ""), ("", "ab"), ("", "")):
            one, table = row_paper(row, other)
            for at in range(len(row) + 1):
                for to in range(len(other) + 1):
                    greater = otherwise(table, at, otherwise(table[at], to, table[at][to] + 1))
                    self.assertEqual(self.part(row, other, (one, greater)), "table")

    def test_lower_numbers(self):
        one, table = row_paper("ab", "cd")
        self.assertEqual(table, ((0, 1, 2), (1, 2, 3), (2, 3, 4)))
        for at, to in ((0, 2), (1, 2), (2, 0), (2, 1)):
            lower = otherwise(table, at, otherwise(table[at], to, table[at][to] - 1))
            self.assertEqual(self.part("ab", "cd", (one, lower)), "table")
        # Of one sign that both rows have the way on is by both at once, so others may be lower.
        one, table = row_paper("ab", "ab")
        self.assertEqual(table, ((0, 1, 2), (1, 1, 2), (2, 2, 2)))
        for lower in (((0, 1, 1), (1, 1, 2), (2, 2, 2)), ((0, 1, 2), (1, 1, 1), (1, 1, 2)), ((0, 1, 1), (1, 1, 1), (1, 1, 2))):
            self.assertEqual(check_row("ab", "ab", (one, lower)), 2)
        for wrong in (((0, 1, 0), (1, 1, 2), (2, 2, 2)), ((-1, 0, 1), (0, 0, 1), (1, 1, 1)), ((0, 1, 2), (1, 0, 1), (2, 1, 2))):
            self.assertEqual(self.part("ab", "ab", (one, wrong)), "table")
        self.assertEqual(self.part("", "", ("", ((-1,),))), "table")

    def test_wrong_kinds_and_counts(self):
        for at in range(5):
            for to in range(5):
                for thing in (None, True, False, "1", 1.0, (1,), Odd()):
                    table = otherwise(self.table, at, otherwise(self.table[at], to, thing))
                    self.assertEqual(self.part(*self.rows, (self.one, table)), "table")
            for thing in (None, (), self.table[at][:-1], self.table[at] + (9,), list(self.table[at]), "01234", Odd()):
                self.assertEqual(self.part(*self.rows, (self.one, otherwise(self.table, at, thing))), "table")
        for table in (None, (), self.table[:-1], self.table[1:], self.table + self.table[-1:], list(self.table), Odd(), 5):
            self.assertEqual(self.part(*self.rows, (self.one, table)), "table")
        self.assertEqual(self.part("a", "a", ("a", ((0, 1), (1, True)))), "table")
        self.assertEqual(self.part("", "", ("", ((False,),))), "table")
        # Rows of unlike lengths: the first one has the tuples, the second one their numbers.
        one, table = row_paper("abc", "a")
        self.assertEqual(self.part("a", "abc", (one, table)), "table")
        self.assertEqual(check_row("a", "abc", (one, tuple(zip(*table)))), 3)

    def test_against_the_words(self):
        draw = random.Random(1414)
        taken = refused = 0
        for _ in range(3000):
            row, other = drawn_row(draw, "ab", 3), drawn_row(draw, "ab", 3)
            one, table = row_paper(row, other)
            cells = [list(numbers) for numbers in table]
            for _ in range(draw.randint(1, 2)):
                at, to = draw.randrange(len(cells)), draw.randrange(len(cells[0]))
                cells[at][to] += draw.choice([-1, -1, 1])
            table = tuple(map(tuple, cells))
            holds = table[0][0] <= 0 and table[-1][-1] == len(one)
            for at in range(len(row) + 1):
                for to in range(len(other) + 1):
                    if at > 0 and table[at][to] > 1 + table[at - 1][to]:
                        holds = False
                    if to > 0 and table[at][to] > 1 + table[at][to - 1]:
                        holds = False
                    if at > 0 and to > 0 and row[at - 1] == other[to - 1] and table[at][to] > 1 + table[at - 1][to - 1]:
                        holds = False
            if holds:
                taken += 1
                self.assertEqual(check_row(row, other, (one, table)), len(one))
            else:
                refused += 1
                self.assertEqual(self.part(row, other, (one, table)), "table")
        self.assertGreater(min(taken, refused), 100)


if __name__ == "__main__":
    unittest.main()
