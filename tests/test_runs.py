"""Promise [7]: all is told of so many towers."""

import random
import time
import tracemalloc
import unittest

from tests.samples import (
    ALONE, DEAD_STARTS, EDGES, LEAST, NO_STARTS, RING, SAMPLES, SPREAD, SPREAD_BAD, all_pairs, drawn_task,
    odd_things, slow_distances, slow_is_bad, slow_is_stuck, slow_many_runs,
)
from towerline.errors import OutOfPlace, TooGreat
from towerline.rules import is_bad, is_stuck, run_end
from towerline.runs import bad_run, lines_that_come, many_runs, most_moves, stuck_run

# STARTS over "a" to "e" of which there are exactly 19,998 and 19,999 with 8 towers.
STARTS_19998 = "<a <b <c <e a> aa ab ac ae b> ba bd be c> ca cb ce da dc dd e> eb ec ed ee".split()
STARTS_19999 = "<a <b <c <d a> aa ab ad ae bb bc be c> ca cb ce d> da db dc dd e> ea eb ec ee".split()
# One START more with 8 towers, "ffffffff".
ONE_MORE = ["<f", "f>", "ff"]
IDLE = (("<", "f", ">", "a"),)
# At this START one rule may act once, and brings a line that is no START.
ONCE = (("<", "f", "f", "a"),)


# 4 ** 8 lines of 8 towers are STARTS, 4 ** 7 of 7.
FOUR = ("abcd", (("a", "a", "a", "b"),), all_pairs("abcd"), (), ())
# The same STARTS, but by moves all lines of "a" to "e" come.
FOUR_AND_MORE = ("abcde", (("<abcde", "a", ">abcde", "e"),), all_pairs("abcd"), (), ())


def with_starts(starts, rules):
    return ("abcdef", rules, tuple(sorted(starts)), (), ())


def calls(task, towers):
    """All calls of runs.py with a task and a number of towers."""
    return (
        lambda: lines_that_come(task, towers), lambda: bad_run(task, towers), lambda: stuck_run(task, towers),
        lambda: most_moves(task, towers), lambda: many_runs(task, towers, 0),
    )


class Come(unittest.TestCase):
    def test_lines_that_come(self):
        self.assertEqual(lines_that_come(SPREAD, 1), ("b",))
        self.assertEqual(lines_that_come(SPREAD, 4), ("baaa", "bbaa", "bbba", "bbbb"))
        self.assertEqual(lines_that_come(SPREAD, 8)[0], "baaaaaaa")
        self.assertEqual(len(lines_that_come(SPREAD, 8)), 8)
        self.assertEqual(lines_that_come(ALONE, 1), ("x", "y", "z"))
        self.assertEqual(lines_that_come(ALONE, 2), ("xx",))
        self.assertEqual(lines_that_come(RING, 2), ("aa", "ab", "ba", "bb"))
        self.assertEqual(len(lines_that_come(RING, 8)), 256)

    def test_without_starts_none_come(self):
        for task in (NO_STARTS, DEAD_STARTS, LEAST):
            for towers in (1, 2, 8):
                self.assertEqual(lines_that_come(task, towers), ())
                self.assertIsNone(bad_run(task, towers))
                self.assertIsNone(stuck_run(task, towers))
                self.assertEqual(most_moves(task, towers), 0)
                self.assertEqual(many_runs(task, towers, 0), 0)
                self.assertEqual(many_runs(task, towers, 200), 0)

    def test_starts_of_some_numbers_of_towers_only(self):
        task = ("ab", RING[1], ("<a", "ab", "b>", "ba"), (), ())
        self.assertEqual(lines_that_come(task, 1), ())
        self.assertEqual(len(lines_that_come(task, 2)), 4)
        self.assertEqual(lines_that_come(task, 3), ())
        self.assertEqual(most_moves(task, 3), 0)
        self.assertIsNone(most_moves(task, 2))


class Shortest(unittest.TestCase):
    def right(self, run, task, towers, holds):
        line, codes = run
        self.assertIsInstance(run, tuple)
        self.assertIsInstance(codes, tuple)
        self.assertEqual(len(line), towers)
        self.assertTrue(holds(task, run_end(task, line, codes)))

    def test_bad_run(self):
        self.assertIsNone(bad_run(SPREAD, 1))
        self.assertIsNone(bad_run(SPREAD, 8))
        self.assertIsNone(bad_run(SPREAD_BAD, 1))
        self.assertEqual(bad_run(SPREAD_BAD, 2), ("ba", ((1, 0),)))
        self.assertEqual(bad_run(SPREAD_BAD, 5), ("baaaa", ((1, 0),)))
        self.assertEqual(bad_run(ALONE, 1), ("x", ((0, 0), (0, 1))))
        self.assertIsNone(bad_run(ALONE, 2))
        self.assertEqual(bad_run(("ab", RING[1], ("<a", "a>", "aa"), ("a",), ()), 3), ("aaa", ()))

    def test_stuck_run(self):
        self.assertIsNone(stuck_run(SPREAD, 1))
        self.assertIsNone(stuck_run(SPREAD, 8))
        self.assertIsNone(stuck_run(RING, 4))
        self.assertEqual(stuck_run(SPREAD_BAD, 1), ("b", ()))
        self.assertEqual(stuck_run(SPREAD_BAD, 4), ("baaa", ((1, 0), (2, 0), (3, 0))))
        self.assertIsNone(stuck_run(ALONE, 1))
        self.assertEqual(stuck_run(ALONE, 2), ("xx", ()))

    def test_as_short_as_any(self):
        draw = random.Random(37)
        seen = {"bad": 0, "stuck": 0}
        for at in range(80):
            task = drawn_task(draw, 2 + at % 2)
            towers = 2 + at % 4
            distances = slow_distances(task, towers)
            if distances:
                # BAD is what stands in a line that is as far away as any.
                whole = "<" + max(distances, key=distances.get) + ">"
                begin = draw.randint(0, towers - 1)
                task = task[:3] + ((whole[begin:begin + 3],),) + task[4:]
            for word, call, slow, holds in (
                ("bad", bad_run, slow_is_bad, is_bad), ("stuck", stuck_run, slow_is_stuck, is_stuck),
            ):
                ways = [far for line, far in distances.items() if slow(task, line)]
                run = call(task, towers)
                if not ways:
                    self.assertIsNone(run)
                else:
                    self.right(run, task, towers, holds)
                    self.assertEqual(len(run[1]), min(ways))
                    seen[word] += min(ways) > 1
                self.assertEqual(call(task, towers), run)
        self.assertGreater(seen["bad"], 0)
        self.assertGreater(seen["stuck"], 0)

    def test_the_nearest_one_not_the_first_one(self):
        # From "bb" the bad "cb" is one move away, from "aa" more.
        task = (
            "abc", (("<", "a", "a", "b"), ("<", "b", "b", "c"), ("b", "a", ">", "b")),
            ("<a", "<b", "a>", "aa", "b>", "bb"), ("<c",), (),
        )
        self.assertEqual(bad_run(task, 2), ("bb", ((0, 1),)))


class Moves(unittest.TestCase):
    def test_most_moves(self):
        for towers in range(1, 9):
            self.assertEqual(most_moves(SPREAD, towers), towers - 1)
        self.assertEqual(most_moves(ALONE, 1), 2)
        self.assertEqual(most_moves(ALONE, 2), 0)
        self.assertIsNone(most_moves(RING, 1))
        self.assertIsNone(most_moves(RING, 8))

    def test_the_longest_way_not_the_shortest(self):
        task = (
            "abcd", (("<", "a", ">", "d"), ("<", "a", ">", "b"), ("<", "b", ">", "c"), ("<", "c", ">", "d")),
            ("<a", "a>"), (), (),
        )
        self.assertEqual(most_moves(task, 1), 3)
        self.assertEqual(many_runs(task, 1, 1), 2)
        self.assertEqual(many_runs(task, 1, 3), 1)
        self.assertEqual(many_runs(task, 1, 4), 0)

    def test_a_ring_behind_some_moves_is_seen(self):
        task = ("abc", (("<", "a", ">", "b"), ("<", "b", ">", "c"), ("<", "c", ">", "b")), ("<a", "a>"), (), ())
        self.assertIsNone(most_moves(task, 1))

    def test_a_ring_that_does_not_come_does_not_count(self):
        task = ("abc", (("<", "b", ">", "c"), ("<", "c", ">", "b")), ("<a", "a>"), (), ())
        self.assertEqual(most_moves(task, 1), 0)

    def test_many_runs(self):
        self.assertEqual([many_runs(SPREAD, 4, count) for count in range(6)], [1, 1, 1, 1, 0, 0])
        self.assertEqual(many_runs(ALONE, 1, 2), 1)
        # Rules that do the same make moves of their own.
        self.assertEqual([many_runs(RING, 1, count) for count in range(5)], [1, 2, 2, 4, 4])
        self.assertEqual(many_runs(RING, 1, 200), 2 ** 100)
        self.assertEqual(many_runs(RING, 2, 1), 4)
        self.assertEqual(many_runs(RING, 2, 2), 12)

    def test_against_the_words_of_the_document(self):
        draw = random.Random(41)
        rests = []
        for task in SAMPLES + tuple(drawn_task(draw, 2 + at % 2) for at in range(50)):
            towers = draw.randint(1, 4)
            self.assertEqual(lines_that_come(task, towers), tuple(sorted(slow_distances(task, towers))))
            many = [slow_many_runs(task, towers, count) for count in range(90)]
            for count in (0, 1, 2, 3, 10, 60):
                self.assertEqual(many_runs(task, towers, count), many[count])
            # With at most 3 ** 4 lines a run of 89 moves comes back.
            most = None if many[89] else max([count for count in range(90) if many[count]], default=0)
            self.assertEqual(most_moves(task, towers), most)
            rests.append(most)
        self.assertIn(None, rests)
        self.assertTrue([most for most in rests if most])

    def test_count_from_0_to_200(self):
        for count in odd_things() + [201, "1", (1,)]:
            with self.subTest(repr(count)):
                self.assertRaises(OutOfPlace, many_runs, RING, 1, count)
        self.assertEqual(many_runs(SPREAD, 2, 200), 0)


class Limits(unittest.TestCase):
    def test_towers_from_1_to_8(self):
        for towers in odd_things() + [0, 9, 1000, "1", (1,)]:
            for call in calls(RING, towers):
                with self.subTest(repr(towers)):
                    self.assertRaises(OutOfPlace, call)

    def test_20000_lines_come(self):
        for task in (
            with_starts(STARTS_19999 + ONE_MORE, IDLE), with_starts(STARTS_19998 + ONE_MORE, ONCE),
        ):
            self.assertEqual(len(lines_that_come(task, 8)), 20000)
            self.assertIsNone(bad_run(task, 8))
            self.assertEqual(stuck_run(task, 8)[1], ())
        self.assertEqual(most_moves(task, 8), 1)
        self.assertEqual([many_runs(task, 8, count) for count in range(3)], [19999, 1, 0])

    def test_more_than_20000_lines_are_too_great(self):
        by_starts = with_starts(all_pairs("abcdef"), IDLE)
        by_one_move = with_starts(STARTS_19999 + ONE_MORE, ONCE)
        by_moves = (
            "abcdef", tuple(("<abcdef", "abcdef"[at], ">abcdef", "bcdefa"[at]) for at in range(6)),
            ("<a", "a>", "aa"), ("a",), (),
        )
        for task in (by_starts, by_one_move, by_moves):
            for call in calls(task, 8):
                with self.assertRaises(TooGreat) as caught:
                    call()
                self.assertEqual(caught.exception.most, 20000)
        self.assertEqual(len(lines_that_come(by_moves, 5)), 6 ** 5)
        self.assertEqual(lines_that_come(by_starts, 1), tuple("abcdef"))

    def test_too_many_starts_are_told_without_making_them(self):
        for call in calls(FOUR, 8) + calls(with_starts(all_pairs("abcdef"), IDLE), 8):
            began = time.perf_counter()
            tracemalloc.start()
            for _ in range(20):
                with self.assertRaises(TooGreat) as caught:
                    call()
                self.assertEqual(caught.exception.most, 20000)
            _, most = tracemalloc.get_traced_memory()
            tracemalloc.stop()
            # 20,000 lines have some 60 bytes each. A slow machine may take ten times as long as asked.
            self.assertLess(most, 200000)
            self.assertLess(time.perf_counter() - began, 20 * 0.01)

    def test_16384_starts_are_not_too_many(self):
        self.assertEqual(len(lines_that_come(FOUR, 7)), 4 ** 7)
        self.assertIsNone(bad_run(FOUR, 7))
        self.assertEqual(stuck_run(FOUR, 7)[1], ())
        self.assertEqual(most_moves(FOUR, 7), 3)
        self.assertEqual(many_runs(FOUR, 7, 0), 4 ** 7)

    def test_too_many_lines_of_fewer_starts(self):
        self.assertEqual(len(lines_that_come(FOUR_AND_MORE, 6)), 5 ** 6)
        for call in calls(FOUR_AND_MORE, 7):
            with self.assertRaises(TooGreat) as caught:
                call()
            self.assertEqual(caught.exception.most, 20000)

    def test_other_arguments_come_ahead_of_too_many_starts(self):
        for call in calls(FOUR, 9) + calls(FOUR, 0) + (lambda: many_runs(FOUR, 8, 201), lambda: many_runs(FOUR, 8, -1)):
            self.assertRaises(OutOfPlace, call)

    def test_numbers_of_starts(self):
        draw = random.Random(101)
        for at in range(60):
            task = drawn_task(draw, 2 + at % 3)
            towers = 1 + at % 5
            starts = [line for line, far in slow_distances(task, towers).items() if far == 0]
            self.assertEqual(many_runs(task, towers, 0), len(starts))

    def test_starts_that_lead_nowhere_are_not_counted(self):
        starts = [pair for pair in all_pairs("abcdef") if pair[1] != ">"]
        self.assertEqual(lines_that_come(with_starts(starts, IDLE), 8), ())
        few = with_starts([pair for pair in starts if pair != "ff"] + ["f>"], IDLE)
        self.assertEqual(len(lines_that_come(few, 2)), 5)

    def test_edges(self):
        self.assertEqual(lines_that_come(EDGES, 2), ("aa", "ac", "ba", "bc"))


if __name__ == "__main__":
    unittest.main()
