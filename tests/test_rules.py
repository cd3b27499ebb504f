"""Promise [3]: lines, moves, starts, ends, bad and stuck lines, runs."""

import itertools
import random
import unittest

from tests.samples import (
    ALONE, EDGES, GREATEST, LEAST, NO_STARTS, RING, SAMPLES, SPREAD, SPREAD_BAD, drawn_task, lines_up_to,
    odd_things, slow_after, slow_is_bad, slow_is_of, slow_is_stuck, slow_moves,
)
from towerline.errors import OutOfPlace
from towerline.rules import after, is_bad, is_end, is_line, is_start, is_stuck, moves, run_end

NO_LINES = ["", "c", "abc", "a<", "<a", "a>", "<a>", "ab ", "aB", "a\n", ("a",), ["a"], b"a", 1]
NO_MOVES = [
    (0,), (0, 0, 0), [0, 0], "00", (0, -1), (-1, 0), (0, 9), (9, 0), (False, 0), (0, False), (0, 0.0), (0.0, 0),
    ("0", 0), (0, "0"), (None, 0), (0, None), ((0, 0),), (10 ** 999, 0), (0, 10 ** 999), (), (0, [0]), 0,
]


class Lines(unittest.TestCase):
    def test_is_line(self):
        for value in ("a", "b", "ab", "ba", "aaaa", "b" * 20000):
            self.assertIs(is_line(SPREAD, value), True)
        for value in NO_LINES + odd_things():
            self.assertIs(is_line(SPREAD, value), False, repr(value))

    def test_starts_and_ends(self):
        for line in ("b", "ba", "baaa"):
            self.assertIs(is_start(SPREAD, line), True)
        for line in ("a", "ab", "bb", "bab", "aab"):
            self.assertIs(is_start(SPREAD, line), False)
        for line in ("b", "bb", "bbbbbb"):
            self.assertIs(is_end(SPREAD, line), True)
        for line in ("a", "ba", "ab", "bba"):
            self.assertIs(is_end(SPREAD, line), False)

    def test_one_tower_stands_between_both_edges(self):
        task = ("ab", SPREAD[1], ("<a", "aa", "b>"), (), ("<b", "a>", "bb"))
        self.assertIs(is_start(task, "a"), False)
        self.assertIs(is_start(task, "b"), False)
        self.assertIs(is_end(task, "a"), False)
        self.assertIs(is_end(task, "b"), False)
        self.assertIs(is_start(RING, "a"), True)

    def test_without_pairs_there_is_neither(self):
        for line in ("a", "ab", "bbb"):
            self.assertIs(is_start(NO_STARTS, line), False)
            self.assertIs(is_end(NO_STARTS, line), False)

    def test_bad_with_signs_and_edges(self):
        def task(*words):
            return ("abc", EDGES[1], (), words, ())
        for words, bad, good in (
            (("b",), ("b", "ab", "bca", "aab"), ("a", "acc")),
            (("ab",), ("ab", "cabc"), ("a", "ba", "acb")),
            (("abc",), ("abc", "aabcc"), ("ab", "bc", "acbc")),
            (("<b",), ("b", "ba"), ("ab", "a")),
            (("b>",), ("b", "ab"), ("ba", "a")),
            (("<b>",), ("b",), ("ba", "ab", "bb", "a")),
            (("<ab",), ("ab", "abc"), ("aab", "a")),
            (("ab>",), ("ab", "cab"), ("aba", "b")),
            (("<c", "bb"), ("c", "abb", "cbb"), ("bab", "ac")),
            ((), (), ("a", "abc", "bb")),
        ):
            for line in bad:
                self.assertIs(is_bad(task(*words), line), True, (words, line))
            for line in good:
                self.assertIs(is_bad(task(*words), line), False, (words, line))

    def test_stuck(self):
        self.assertIs(is_stuck(SPREAD, "b"), False)
        self.assertIs(is_stuck(SPREAD, "bb"), False)
        self.assertIs(is_stuck(SPREAD, "ba"), False)
        self.assertIs(is_stuck(SPREAD, "a"), True)
        self.assertIs(is_stuck(SPREAD, "ab"), True)
        self.assertIs(is_stuck(SPREAD_BAD, "bb"), True)
        self.assertIs(is_stuck(RING, "abab"), False)
        self.assertIs(is_stuck(ALONE, "xx"), True)
        self.assertIs(is_stuck(ALONE, "x"), False)
        self.assertIs(is_stuck(ALONE, "z"), False)

    def test_no_lines_are_refused(self):
        for call in (is_start, is_end, is_bad, is_stuck, moves):
            for thing in NO_LINES + odd_things():
                with self.subTest(call=call.__name__, thing=repr(thing)):
                    self.assertRaises(OutOfPlace, call, SPREAD, thing)
        for thing in NO_LINES + odd_things():
            self.assertRaises(OutOfPlace, after, SPREAD, thing, (0, 0))
            self.assertRaises(OutOfPlace, run_end, SPREAD, thing, ())

    def test_long_lines(self):
        line = "b" + "a" * 19999
        self.assertIs(is_start(SPREAD, line), True)
        self.assertEqual(moves(SPREAD, line), ((1, 0),))
        self.assertEqual(after(SPREAD, line, (1, 0)), "bb" + "a" * 19998)
        self.assertEqual(len(moves(RING, line)), 19999 * 2 + 1)
        self.assertIs(is_bad(SPREAD, line + "b"), True)
        self.assertIs(is_stuck(SPREAD, "b" * 20000), False)


class Moves(unittest.TestCase):
    def test_moves_of_one_tower(self):
        self.assertEqual(moves(ALONE, "x"), ((0, 0),))
        self.assertEqual(moves(ALONE, "y"), ((0, 1),))
        self.assertEqual(moves(ALONE, "z"), ())
        self.assertEqual(moves(LEAST, "y"), ((0, 0),))
        self.assertEqual(moves(RING, "a"), ((0, 0), (0, 2)))
        self.assertEqual(moves(SPREAD, "a"), ())

    def test_moves_of_several_towers_ascend(self):
        self.assertEqual(moves(SPREAD, "babaa"), ((1, 0), (3, 0)))
        self.assertEqual(moves(RING, "aba"), ((0, 0), (0, 2), (1, 1), (2, 0), (2, 2)))
        self.assertEqual(moves(ALONE, "xy"), ())
        self.assertEqual(moves(GREATEST, "a"), tuple((0, number) for number in range(5)))

    def test_edges_are_neighbours(self):
        self.assertEqual(moves(EDGES, "a"), ())
        self.assertEqual(moves(EDGES, "aa"), ((0, 0), (1, 1)))
        self.assertEqual(moves(EDGES, "aaa"), ((0, 0), (2, 1)))
        self.assertEqual(moves(EDGES, "baa"), ((1, 3), (2, 1)))
        self.assertEqual(moves(EDGES, "bac"), ((1, 2),))
        self.assertEqual(moves(EDGES, "ba"), ((1, 1),))

    def test_after(self):
        self.assertEqual(after(ALONE, "x", (0, 0)), "y")
        self.assertEqual(after(SPREAD, "babaa", (1, 0)), "bbbaa")
        self.assertEqual(after(SPREAD, "babaa", (3, 0)), "babba")
        self.assertEqual(after(EDGES, "aa", (1, 1)), "ac")
        self.assertEqual(after(EDGES, "aa", (0, 0)), "ba")

    def test_no_moves_are_refused(self):
        for thing in NO_MOVES + odd_things():
            with self.subTest(repr(thing)):
                self.assertRaises(OutOfPlace, after, RING, "bb", thing)
        for move in ((0, 0), (2, 0), (0, 1), (1, 1), (-1, 0), (1, -1), (3, 0), (4, 0)):
            self.assertRaises(OutOfPlace, after, SPREAD, "baa", move)
        # A move from behind, as Python counts, is none.
        self.assertEqual(after(SPREAD, "ba", (1, 0)), "bb")
        self.assertRaises(OutOfPlace, after, SPREAD, "ba", (-1, 0))
        self.assertRaises(OutOfPlace, after, SPREAD, "ba", (1, -1))
        self.assertRaises(OutOfPlace, after, SPREAD, "ba", (True, 0))
        self.assertRaises(OutOfPlace, after, SPREAD, "ba", (1, False))
        self.assertRaises(OutOfPlace, after, SPREAD, "ba", [1, 0])

    def test_against_the_words_of_the_document(self):
        draw = random.Random(3)
        for task in SAMPLES + tuple(drawn_task(draw, 2 + at % 3) for at in range(30)):
            for line in lines_up_to(task[0], 4):
                told = slow_moves(task, line)
                self.assertEqual(moves(task, line), told)
                for move in itertools.product(range(-1, len(line) + 4), range(-1, len(task[1]) + 1)):
                    if move in told:
                        self.assertEqual(after(task, line, move), slow_after(task, line, move))
                    else:
                        self.assertRaises(OutOfPlace, after, task, line, move)
                self.assertIs(is_start(task, line), slow_is_of(task[2], line))
                self.assertIs(is_end(task, line), slow_is_of(task[4], line))
                self.assertIs(is_bad(task, line), slow_is_bad(task, line))
                self.assertIs(is_stuck(task, line), slow_is_stuck(task, line))


class Runs(unittest.TestCase):
    def test_run_end(self):
        self.assertEqual(run_end(SPREAD, "b", ()), "b")
        self.assertEqual(run_end(SPREAD, "baa", ()), "baa")
        self.assertEqual(run_end(SPREAD, "baa", ((1, 0),)), "bba")
        self.assertEqual(run_end(SPREAD, "baa", ((1, 0), (2, 0))), "bbb")
        self.assertEqual(run_end(ALONE, "x", ((0, 0), (0, 1))), "z")

    def test_each_move_is_at_the_line_behind_those_ahead(self):
        for codes in (((2, 0),), ((2, 0), (1, 0)), ((1, 0), (1, 0)), ((1, 0), (2, 0), (2, 0)), ((1, 0), (3, 0))):
            self.assertRaises(OutOfPlace, run_end, SPREAD, "baa", codes)

    def test_a_run_begins_at_a_start(self):
        for line in ("a", "bb", "ab", "bba"):
            self.assertRaises(OutOfPlace, run_end, SPREAD, line, ())
        self.assertRaises(OutOfPlace, run_end, NO_STARTS, "a", ())

    def test_a_run_has_at_most_1000_moves(self):
        there_and_back = ((0, 0), (0, 1))
        self.assertEqual(run_end(RING, "aa", there_and_back * 500), "aa")
        self.assertEqual(run_end(RING, "aa", there_and_back * 499 + ((0, 2),)), "ba")
        self.assertRaises(OutOfPlace, run_end, RING, "aa", there_and_back * 500 + ((0, 0),))
        self.assertRaises(OutOfPlace, run_end, RING, "aa", there_and_back * 600)
        self.assertEqual(run_end(SPREAD, "b" + "a" * 1000, tuple((at, 0) for at in range(1, 1001))), "b" * 1001)

    def test_what_is_no_tuple_of_moves_is_refused(self):
        for thing in odd_things() + [[(0, 0)], "", 0, (0, 0), ((0, 0), 1)]:
            with self.subTest(repr(thing)):
                self.assertRaises(OutOfPlace, run_end, RING, "a", thing)
        for thing in NO_MOVES:
            with self.subTest(repr(thing)):
                self.assertRaises(OutOfPlace, run_end, RING, "a", (thing,))
                self.assertRaises(OutOfPlace, run_end, RING, "a", ((0, 0), thing, (0, 1)))


if __name__ == "__main__":
    unittest.main()
