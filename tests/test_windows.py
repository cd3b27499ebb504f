"""Promise [4]: windows, tables, what is alive, closed tables, the table of a size."""

import random
import unittest

from tests.samples import (
    ALONE, DEAD_STARTS, EDGES, GREATEST, LEAST, NO_STARTS, RING, SAMPLES, SPREAD, SPREAD_BAD, all_pairs,
    all_windows, drawn_task, lines_up_to, odd_things, slow_alive, slow_is_closed, slow_table, slow_windows,
)
from towerline.errors import OutOfPlace, TooGreat
from towerline.rules import is_bad
from towerline.windows import alive, does_fit, is_closed, many_lines, table_of, windows_of

SPREAD_2 = ("<b", "a>", "aa", "b>", "ba", "bb")
SPREAD_3 = ("<<b", "<b>", "<ba", "<bb", "a>>", "aa>", "aaa", "b>>", "ba>", "baa", "bb>", "bba", "bbb")

# STARTS over six signs that have exactly 500 and 501 WINDOWS of SIZE 4.
STARTS_500 = tuple(
    "<a <b <c <d <e aa ac ad b> ba bb bc bd be bf c> cc ce cf d> db de df e> ea ed ee ef f> fb fd fe".split()
)
STARTS_501 = tuple(
    "<a <b <c <d <f a> aa ac ae af b> bb bc bd c> ca cc cd ce dd de df e> ea eb ec ed ee ef f> fc ff".split()
)
IDLE = ("abcdef", (("<", "a", ">", "b"),))

NO_TABLES = [
    ["<a"], "<a", ("",), ("a",), ("<",), ("<>",), ("<<",), (">>",), ("<<>",), ("<>>",), ("<<<",), (">a",), ("a<",),
    ("a<b",), ("a>b",), ("a>a>",), ("<a<",), ("abaab",), ("<<<<a",), ("ac",), ("<c",), ("ba", "ab"), ("ab", "ab"),
    ("ab", "aba"), ("aab", "ab"), ("<a", "<<a"), ("<a", None), (None, "<a"), (b"ab",), (1,), (True,), (("a", "b"),),
    ("aa", "ba", "bb", "b>"), ("aab", "abab"), ("<<<a", "aba"),
]


def without(table, window):
    return tuple(item for item in table if item != window)


def with_one(table, window):
    return tuple(sorted(table + (window,)))


class Windows(unittest.TestCase):
    def test_windows_of(self):
        self.assertEqual(windows_of(2, "a"), ("<a", "a>"))
        self.assertEqual(windows_of(3, "a"), ("<<a", "<a>", "a>>"))
        self.assertEqual(windows_of(4, "a"), ("<<<a", "<<a>", "<a>>", "a>>>"))
        self.assertEqual(windows_of(4, "xy"), ("<<<x", "<<xy", "<xy>", "xy>>", "y>>>"))
        self.assertEqual(windows_of(2, "aaaa"), ("<a", "a>", "aa"))
        self.assertEqual(windows_of(3, "zaz"), ("<<z", "<za", "az>", "z>>", "zaz"))
        self.assertEqual(windows_of(2, "abcdefghijklmnopqrstuvwxyz")[0], "<a")

    def test_windows_of_all_short_lines(self):
        for size in (2, 3, 4):
            for line in lines_up_to("abz", 5):
                self.assertEqual(windows_of(size, line), tuple(sorted(slow_windows(size, line))))

    def test_lines_of_1_to_200_letters(self):
        self.assertEqual(windows_of(2, "a" * 200), ("<a", "a>", "aa"))
        self.assertEqual(len(windows_of(4, "ab" * 100)), 8)
        for thing in odd_things() + ["", "a" * 201, "A", "ab1", "a<", "<a", "\u00e4", ("a",), ["a"], 1]:
            with self.subTest(repr(thing)):
                self.assertRaises(OutOfPlace, windows_of, 2, thing)

    def test_sizes_from_2_to_4(self):
        for size in odd_things() + [0, 1, 5, "2", (2,), [3]]:
            with self.subTest(repr(size)):
                self.assertRaises(OutOfPlace, windows_of, size, "ab")
                self.assertRaises(OutOfPlace, table_of, SPREAD, size)


class Fits(unittest.TestCase):
    def test_does_fit(self):
        for size, table in ((2, SPREAD_2), (3, SPREAD_3)):
            for line in lines_up_to("ab", 6):
                fits = slow_windows(size, line) <= set(table)
                self.assertIs(does_fit(SPREAD, table, line), fits, (size, line))

    def test_lines_shorter_than_the_size(self):
        table = ("<<<a", "<<a>", "<<ab", "<a>>", "a>>>")
        self.assertIs(does_fit(SPREAD, table, "a"), True)
        self.assertIs(does_fit(SPREAD, table, "ab"), False)
        self.assertIs(does_fit(SPREAD, without(table, "<<a>"), "a"), False)
        self.assertIs(does_fit(SPREAD, without(table, "<a>>"), "a"), False)
        self.assertIs(does_fit(SPREAD, windows_of(4, "ab"), "ab"), True)
        self.assertIs(does_fit(SPREAD, windows_of(3, "b"), "b"), True)

    def test_nothing_fits_the_empty_table(self):
        for line in ("a", "b", "abab"):
            self.assertIs(does_fit(SPREAD, (), line), False)

    def test_lines_of_any_length(self):
        self.assertIs(does_fit(SPREAD, SPREAD_3, "b" + "a" * 19999), True)
        self.assertIs(does_fit(SPREAD, SPREAD_3, "b" + "a" * 19998 + "b"), False)

    def test_no_lines_are_refused(self):
        for thing in odd_things() + ["", "c", "<a>", ["a"]]:
            self.assertRaises(OutOfPlace, does_fit, SPREAD, SPREAD_2, thing)
            self.assertRaises(OutOfPlace, does_fit, SPREAD, (), thing)

    def test_no_tables_are_refused(self):
        for thing in odd_things() + NO_TABLES:
            with self.subTest(repr(thing)):
                self.assertRaises(OutOfPlace, does_fit, SPREAD, thing, "a")
                self.assertRaises(OutOfPlace, alive, SPREAD, thing)
                self.assertRaises(OutOfPlace, is_closed, SPREAD, thing)
                self.assertRaises(OutOfPlace, many_lines, SPREAD, thing, 1)

    def test_all_windows_make_tables(self):
        for size in (2, 3, 4):
            table = all_windows("ab", size)
            self.assertIs(does_fit(SPREAD, table, "abba"), True)
            self.assertEqual(alive(SPREAD, table), table)
            for window in table:
                self.assertIs(does_fit(SPREAD, (window,), "a"), False)


class Alive(unittest.TestCase):
    def test_what_no_line_leads_through_is_dead(self):
        for size in (2, 3, 4):
            table = windows_of(size, "a" * 6)
            self.assertEqual(alive(RING, table), table)
        self.assertEqual(alive(RING, ("<a", "a>", "bb")), ("<a", "a>"))
        self.assertEqual(alive(RING, ("<a", "aa")), ())
        self.assertEqual(alive(RING, ("a>", "aa")), ())
        self.assertEqual(alive(RING, ("<a", "a>", "ab", "bb")), ("<a", "a>"))
        self.assertEqual(alive(RING, ("<a", "a>", "ba", "bb")), ("<a", "a>"))
        self.assertEqual(alive(RING, ("<a", "ab", "b>", "ba")), ("<a", "ab", "b>", "ba"))
        self.assertEqual(alive(RING, ("<<a", "<a>", "a>>", "aba")), ("<<a", "<a>", "a>>"))
        self.assertEqual(alive(RING, ("<<a", "<aa", "a>>")), ())

    def test_the_empty_table(self):
        self.assertEqual(alive(RING, ()), ())

    def test_against_all_short_lines(self):
        draw = random.Random(11)
        lines = lines_up_to("ab", 9)
        for at in range(40):
            size = 2 + at % 2
            table = tuple(window for window in all_windows("ab", size) if draw.random() < 0.7)
            self.assertEqual(alive(RING, table), slow_alive(table, lines))

    def test_long_ways_are_seen(self):
        # Only one line, of as many towers as may be without a ring, fits.
        line = "aabbabaaabbb"
        table = windows_of(4, line)
        self.assertEqual(alive(RING, table), table)


class Closed(unittest.TestCase):
    def test_the_table_of_a_task_is_closed_one_less_is_not(self):
        for task in SAMPLES:
            for size in (2, 3, 4):
                table = table_of(task, size)
                self.assertIs(is_closed(task, table), True)
                for window in table:
                    self.assertIs(is_closed(task, without(table, window)), False, (task, window))

    def test_one_window_more(self):
        self.assertIs(is_closed(SPREAD, SPREAD_2), True)
        # With "ab" a line "bab" fits, whose moves stay in it.
        self.assertIs(is_closed(SPREAD, with_one(SPREAD_2, "ab")), True)
        # With "<a" no move is new either; a dead window makes no difference.
        self.assertIs(is_closed(SPREAD, with_one(SPREAD_2, "<a")), True)
        self.assertIs(is_closed(SPREAD, with_one(SPREAD_3, "aab")), True)
        self.assertIs(is_closed(SPREAD, with_one(SPREAD_3, "aba")), True)

    def test_moves_at_the_edges(self):
        first = ("ab", (("<", "a", "a", "b"),), ("<a", "a>", "aa"), (), ())
        last = ("ab", (("a", "a", ">", "b"),), ("<a", "a>", "aa"), (), ())
        alone = ("ab", (("<", "a", ">", "b"),), ("<a", "a>", "aa"), (), ())
        starts = ("<a", "a>", "aa")
        for task, table in (
            (first, ("<a", "<b", "a>", "aa", "ba")),
            (last, ("<a", "a>", "aa", "ab", "b>")),
            (alone, ("<a", "<b", "a>", "aa", "b>")),
        ):
            self.assertIs(is_closed(task, starts), False)
            self.assertEqual(table_of(task, 2), table)

    def test_the_right_neighbour_counts_at_the_right(self):
        # A move at the last tower of a window hangs on the sign behind it.
        task = ("abc", (("a", "b", "c", "a"),), ("<a", "ab", "b>", "bb"), (), ())
        for size in (2, 3, 4):
            self.assertEqual(table_of(task, size), alive(task, table_of(task, size)))
            self.assertEqual(table_of(task, size), slow_table(task, size, lines_up_to("abc", 6)))
            self.assertIs(is_closed(task, table_of(task, size)), True)

    def test_the_empty_table(self):
        self.assertIs(is_closed(NO_STARTS, ()), True)
        self.assertIs(is_closed(DEAD_STARTS, ()), True)
        self.assertIs(is_closed(LEAST, ()), True)
        self.assertIs(is_closed(SPREAD, ()), False)
        self.assertIs(is_closed(RING, ()), False)

    def test_without_starts_all_hangs_on_the_moves(self):
        self.assertIs(is_closed(NO_STARTS, ("<a", "a>")), False)
        self.assertIs(is_closed(NO_STARTS, ("<a", "<b", "a>", "b>")), True)
        # No line fits, so none moves.
        self.assertIs(is_closed(NO_STARTS, ("<a", "aa")), True)

    def test_what_a_move_brings_may_be_there_but_only_dead_ones_do_not_move(self):
        task = ("abc", (("<", "a", ">", "b"), ("c", "b", "c", "c")), (), (), ())
        self.assertIs(is_closed(task, ("<a", "<b", "a>", "b>", "bc", "cb", "cc")), True)
        self.assertIs(is_closed(task, ("<b", "b>", "bc", "c>", "cb")), False)

    def test_against_all_short_lines(self):
        draw = random.Random(17)
        told = []
        for at in range(60):
            task = drawn_task(draw, 2)
            size = 2 + at % 2
            source = all_windows(task[0], size) if at % 4 < 2 else table_of(task, size)
            table = tuple(window for window in source if draw.random() < 0.95)
            closed = slow_is_closed(task, size, table, lines_up_to(task[0], 8))
            self.assertIs(is_closed(task, table), closed, (task, table))
            told.append(closed)
        self.assertIn(True, told)
        self.assertIn(False, told)

    def test_the_greatest_table(self):
        for size in (2, 3, 4):
            table = all_windows(GREATEST[0], size)
            self.assertIs(is_closed(GREATEST, table), True)
            self.assertIs(is_closed(GREATEST, table[1:]), False)


class Tables(unittest.TestCase):
    def test_table_of(self):
        self.assertEqual(table_of(SPREAD, 2), SPREAD_2)
        self.assertEqual(table_of(SPREAD, 3), SPREAD_3)
        self.assertEqual(table_of(ALONE, 2), ("<x", "<y", "<z", "x>", "xx", "y>", "z>"))
        self.assertEqual(table_of(RING, 2), all_windows("ab", 2))
        self.assertEqual(table_of(RING, 4), all_windows("ab", 4))

    def test_without_starts_it_is_empty(self):
        for task in (NO_STARTS, DEAD_STARTS, LEAST):
            for size in (2, 3, 4):
                self.assertEqual(table_of(task, size), ())

    def test_dead_pairs_bring_no_windows(self):
        task = ("abc", EDGES[1], ("<a", "a>", "ab", "ca"), (), ())
        self.assertEqual(table_of(task, 2), ("<a", "a>"))
        self.assertEqual(table_of(task, 3), ("<<a", "<a>", "a>>"))

    def test_against_all_short_lines(self):
        draw = random.Random(23)
        for at in range(40):
            task = drawn_task(draw, 2)
            size = 2 + at % 3
            self.assertEqual(table_of(task, size), slow_table(task, size, lines_up_to(task[0], 9)), task)
        for at in range(6):
            task = drawn_task(draw, 3)
            self.assertEqual(table_of(task, 2), slow_table(task, 2, lines_up_to(task[0], 6)), task)

    def test_facts(self):
        draw = random.Random(29)
        for at in range(20):
            task = drawn_task(draw, 2)
            for size in (2, 3, 4):
                table = table_of(task, size)
                self.assertEqual(alive(task, table), table)
                self.assertIs(is_closed(task, table), True)
            for line in lines_up_to(task[0], 7):
                if is_bad(task, line) and does_fit(task, table_of(task, 3), line):
                    self.assertIs(does_fit(task, table_of(task, 2), line), True)

    def test_at_most_500_windows(self):
        self.assertEqual(len(table_of(IDLE + (STARTS_500, (), ()), 4)), 500)
        with self.assertRaises(TooGreat) as caught:
            table_of(IDLE + (STARTS_501, (), ()), 4)
        self.assertEqual(caught.exception.most, 500)

    def test_too_great_by_moves(self):
        task = (GREATEST[0], GREATEST[1] + (), ("<a", "a>", "aa"), (), ())
        self.assertEqual(len(table_of(task, 2)), 48)
        self.assertEqual(len(table_of(task, 3)), 306)
        with self.assertRaises(TooGreat) as caught:
            table_of(task, 4)
        self.assertEqual(caught.exception.most, 500)
        self.assertRaises(TooGreat, table_of, IDLE + (all_pairs("abcdef"), (), ()), 4)

    def test_only_table_of_is_too_great(self):
        table = all_windows("abcdef", 4)
        task = IDLE + (all_pairs("abcdef"), (), ())
        self.assertEqual(len(table), 1860)
        self.assertIs(is_closed(task, table), True)
        self.assertEqual(alive(task, table), table)
        self.assertEqual(many_lines(task, table, 5), 6 ** 5)


class Many(unittest.TestCase):
    def test_many_lines(self):
        for towers in (1, 2, 3, 7, 1000):
            self.assertEqual(many_lines(SPREAD, SPREAD_2, towers), towers)
            self.assertEqual(many_lines(SPREAD, SPREAD_3, towers), towers)
            for size in (2, 3, 4):
                self.assertEqual(many_lines(RING, all_windows("ab", size), towers), 2 ** towers)

    def test_lines_shorter_than_the_size(self):
        self.assertEqual(many_lines(RING, ("<<<a", "<<a>", "<a>>", "a>>>"), 1), 1)
        self.assertEqual(many_lines(RING, ("<<<a", "<<a>", "<a>>", "a>>>"), 2), 0)
        self.assertEqual(many_lines(RING, windows_of(4, "ab"), 2), 1)
        self.assertEqual(many_lines(RING, windows_of(4, "ab"), 1), 0)

    def test_dead_windows_do_not_count(self):
        self.assertEqual(many_lines(RING, ("<a", "<b", "a>", "ba", "bb"), 1), 1)
        self.assertEqual(many_lines(RING, ("<a", "<b", "a>", "ba", "bb"), 4), 1)
        self.assertEqual(many_lines(RING, ("<a", "aa"), 3), 0)
        self.assertEqual(many_lines(RING, ("a>", "aa"), 3), 0)

    def test_the_empty_table(self):
        self.assertEqual(many_lines(RING, (), 1), 0)
        self.assertEqual(many_lines(RING, (), 1000), 0)

    def test_against_all_short_lines(self):
        draw = random.Random(31)
        lines = lines_up_to("ab", 7)
        for at in range(30):
            size = 2 + at % 3
            table = tuple(window for window in all_windows("ab", size) if draw.random() < 0.8)
            fitting = [line for line in lines if slow_windows(size, line) <= set(table)]
            for towers in range(1, 8):
                many = len([line for line in fitting if len(line) == towers])
                self.assertEqual(many_lines(RING, table, towers), many)

    def test_towers_from_1_to_1000(self):
        for towers in odd_things() + [0, 1001, "1", (1,)]:
            with self.subTest(repr(towers)):
                self.assertRaises(OutOfPlace, many_lines, RING, (), towers)
                self.assertRaises(OutOfPlace, many_lines, RING, ("<a", "a>"), towers)


class Spread(unittest.TestCase):
    def test_bad_lines_are_those_that_are_told(self):
        # The table of SPREAD has no line with "ab", that of its like with a bad end has.
        for line in lines_up_to("ab", 6):
            if does_fit(SPREAD, SPREAD_2, line):
                self.assertIs(is_bad(SPREAD, line), False)
        self.assertIs(is_bad(SPREAD_BAD, "bba"), True)


if __name__ == "__main__":
    unittest.main()
