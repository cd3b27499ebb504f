"""Promise [6]: lively rules, ranks, and their sums."""

import random
import unittest

from tests.samples import (
    ALONE, DEAD_STARTS, EDGES, GREATEST, LEAST, NO_STARTS, RING, SAMPLES, SOUND_3, SPREAD, drawn_task,
    lines_up_to, odd_things, slow_distances, slow_fitting, slow_longest, slow_moves,
)
from towerline.errors import OutOfPlace, TooGreat
from towerline.ranks import lively, rank_sum, ranks
from towerline.runs import most_moves
from towerline.windows import table_of

# Rules lead round "a", "b", "c"; the one from "c" to "a" wants a neighbour "d", which never stands.
CUT_RING = (
    "abcd",
    (("<abcd", "a", ">abc", "b"), ("<abcd", "b", ">abc", "c"), ("d", "c", ">abcd", "a"), ("<abcd", "c", "d", "a")),
    ("<a", "a>", "aa"), (), (),
)
# Ways from "a" of one, two and three rules, and several rules for one step; "e" is a sign from which none goes on.
WAYS = (
    "abcde",
    (
        ("<", "a", ">", "e"), ("<", "a", ">", "c"), ("<", "a", ">", "b"), ("<a", "b", ">", "c"), ("<", "b", ">", "c"),
        ("<", "b", ">", "e"), ("<", "c", ">", "e"), ("<", "d", ">", "e"),
    ),
    ("<a", "<d", "a>", "d>"), (), (),
)
GREAT = (GREATEST[0], GREATEST[1], ("<a", "a>", "aa"), (), ())


def slow_ranks(task, numbers):
    """The RANKS by these LIVELY rules, straight by the words of the document."""
    def rank(sign, ahead):
        if sign in ahead:
            raise LookupError
        return max([rank(task[1][at][3], ahead + sign) + 1 for at in numbers if task[1][at][1] == sign], default=0)
    try:
        return tuple(rank(sign, "") for sign in task[0])
    except LookupError:
        return None


class Lively(unittest.TestCase):
    def test_lively(self):
        for size in (2, 3, 4):
            self.assertEqual(lively(SPREAD, size), (0,))
            self.assertEqual(lively(RING, size), (0, 1, 2))
            self.assertEqual(lively(ALONE, size), (0, 1))
            self.assertEqual(lively(EDGES, size), (0, 1, 2, 3))
            self.assertEqual(lively(CUT_RING, size), (0, 1))
            self.assertEqual(lively(WAYS, size), tuple(range(8)))

    def test_rules_that_can_never_act(self):
        # In lines of SPREAD no "a" is the first one, and no "b" has an "a" to its left.
        never = (("a", "b", ">ab", "a"), ("<", "a", ">ab", "b"))
        for size in (2, 3, 4):
            self.assertEqual(lively(("ab", SPREAD[1] + never, SPREAD[2], (), ()), size), (0,))
            self.assertEqual(lively(("ab", never + SPREAD[1], SPREAD[2], (), ()), size), (2,))
            self.assertEqual(lively(("ab", never[:1] + SPREAD[1] * 3 + never[1:], SPREAD[2], (), ()), size), (1, 2, 3))
            self.assertEqual(lively(("ab", (("b", "b", "a", "a"),), ("<a", "a>", "aa"), (), ()), size), ())
            for task in (NO_STARTS, DEAD_STARTS, LEAST):
                self.assertEqual(lively(task, size), ())

    def test_a_greater_size_tells_more(self):
        # "i" alone fits the table of size 2 of SOUND_3, no greater one.
        task = SOUND_3[:1] + (SOUND_3[1] + (("<", "i", ">", "s"),),) + SOUND_3[2:]
        self.assertEqual([lively(task, size) for size in (2, 3, 4)], [(0, 1), (0,), (0,)])
        self.assertEqual([ranks(task, size) for size in (2, 3, 4)], [None, (0, 1), (0, 1)])

    def test_each_edge(self):
        for rule, line in (
            (("<", "a", ">", "b"), "a"), (("<", "a", "a", "b"), "aa"), (("a", "a", ">", "b"), "aa"),
            (("a", "a", "a", "b"), "aaa"),
        ):
            only = tuple(sorted({one + two for one, two in zip("<" + line, line + ">")}))
            for size in (2, 3, 4):
                self.assertEqual(lively(("ab", (rule,), only, (), ()), size), (0,))
                if line != "a":
                    self.assertEqual(lively(("ab", (rule,), ("<a", "a>"), (), ()), size), ())

    def test_against_all_short_lines(self):
        draw = random.Random(67)
        some = 0
        for task in SAMPLES + tuple(drawn_task(draw, 2 + at % 2) for at in range(120)):
            for size in (2, 3, 4):
                lines = slow_fitting(size, table_of(task, size), task[0], 7)
                told = tuple(sorted({number for line in lines for _, number in slow_moves(task, line)}))
                self.assertEqual(lively(task, size), told, (task, size))
                some += 0 < len(told) < len(task[1])
        self.assertGreater(some, 20)


class Ranks(unittest.TestCase):
    def test_ranks(self):
        for size in (2, 3, 4):
            self.assertEqual(ranks(SPREAD, size), (1, 0))
            self.assertEqual(ranks(ALONE, size), (2, 1, 0))
            self.assertEqual(ranks(WAYS, size), (3, 2, 1, 1, 0))

    def test_a_ring_of_lively_rules(self):
        for size in (2, 3, 4):
            self.assertIsNone(ranks(RING, size))
            self.assertIsNone(rank_sum(RING, size, "ab"))
            three = ("abc", (("<", "a", ">", "b"), ("<", "b", ">", "c"), ("<", "c", ">", "a")), ("<a", "a>"), (), ())
            self.assertIsNone(ranks(three, size))
            # A way to a ring is one no more than the ring itself.
            tail = ("abc", (("<", "a", ">", "b"), ("<", "b", ">", "c"), ("<", "c", ">", "b")), ("<a", "a>"), (), ())
            self.assertIsNone(ranks(tail, size))
            two = ("abcd", (("<", "a", ">", "b"), ("<", "c", ">", "d"), ("<", "d", ">", "c")),
                   ("<a", "<c", "a>", "c>"), (), ())
            self.assertIsNone(ranks(two, size))

    def test_a_ring_of_rules_that_are_not_all_lively(self):
        for size in (2, 3, 4):
            self.assertEqual(ranks(CUT_RING, size), (2, 1, 0, 0))
            self.assertEqual(ranks(NO_STARTS, size), (0, 0))
            self.assertEqual(ranks(LEAST, size), (0, 0))
        # With "d" at a start the ring is closed.
        self.assertIsNone(ranks(CUT_RING[:2] + (("<d", "a>", "aa", "da"), (), ()), 2))

    def test_several_rules_from_one_sign_to_another(self):
        rules = (("<", "a", ">", "b"), ("<a", "a", ">", "b"), ("<", "a", ">b", "b"))
        self.assertEqual(ranks(("ab", rules, ("<a", "a>"), (), ()), 3), (1, 0))

    def test_the_greatest_number_not_the_least(self):
        for rules in (WAYS[1], WAYS[1][::-1]):
            self.assertEqual(ranks(WAYS[:1] + (rules,) + WAYS[2:], 2), (3, 2, 1, 1, 0))

    def test_a_long_way_in_any_order_of_signs(self):
        draw = random.Random(71)
        for _ in range(30):
            order = "".join(draw.sample("abcdef", 6))
            rules = [("<", one, ">", two) for one, two in zip(order, order[1:])]
            draw.shuffle(rules)
            task = ("abcdef", tuple(rules), tuple(sorted(("<" + order[0], order[0] + ">"))), (), ())
            self.assertEqual(ranks(task, 2), tuple(5 - order.index(sign) for sign in "abcdef"))

    def test_against_the_words_of_the_document(self):
        draw = random.Random(73)
        told = []
        for task in SAMPLES + tuple(drawn_task(draw, 2 + at % 3) for at in range(150)):
            for size in (2, 3):
                found = slow_ranks(task, lively(task, size))
                self.assertEqual(ranks(task, size), found)
                told.append(found)
        self.assertGreater(told.count(None), 20)
        self.assertGreater(len([one for one in told if one and sum(one) > 1]), 20)


class Sums(unittest.TestCase):
    def test_rank_sum(self):
        for size in (2, 3, 4):
            self.assertEqual(rank_sum(SPREAD, size, "baaa"), 3)
            self.assertEqual(rank_sum(SPREAD, size, "bbbb"), 0)
            # Any line has a sum, also one that never comes.
            self.assertEqual(rank_sum(SPREAD, size, "aaaaa"), 5)
            self.assertEqual(rank_sum(ALONE, size, "xyzyx"), 6)
            self.assertEqual(rank_sum(WAYS, size, "aabcde"), 10)
            self.assertEqual(rank_sum(SPREAD, size, "a" * 20000), 20000)
            self.assertEqual(rank_sum(LEAST, size, "yz"), 0)

    def test_no_run_has_more_moves(self):
        draw = random.Random(79)
        reached = 0
        for task in SAMPLES + tuple(drawn_task(draw, 2 + at % 2) for at in range(120)):
            for size in (2, 3, 4):
                if ranks(task, size) is None:
                    self.assertIsNone(rank_sum(task, size, task[0]))
                    continue
                for towers in (1, 2, 3, 4):
                    starts = [line for line, far in slow_distances(task, towers).items() if far == 0]
                    sums = [rank_sum(task, size, line) for line in starts]
                    for line, most in zip(starts, sums):
                        longest = slow_longest(task, line)
                        self.assertLessEqual(longest, most)
                        reached += 0 < longest == most
                    self.assertLessEqual(most_moves(task, towers), max(sums, default=0))
        self.assertGreater(reached, 20)

    def test_all_lines(self):
        for line in lines_up_to("ab", 6):
            self.assertEqual(rank_sum(SPREAD, 2, line), line.count("a"))


class Limits(unittest.TestCase):
    def test_too_great(self):
        self.assertEqual(len(lively(GREAT, 3)), 24)
        for call, rest in ((lively, ()), (ranks, ()), (rank_sum, ("a",))):
            with self.assertRaises(TooGreat) as caught:
                call(GREAT, 4, *rest)
            self.assertEqual(caught.exception.most, 500)

    def test_refused(self):
        for size in odd_things() + [0, 1, 5, "2"]:
            self.assertRaises(OutOfPlace, lively, SPREAD, size)
            self.assertRaises(OutOfPlace, ranks, SPREAD, size)
            self.assertRaises(OutOfPlace, rank_sum, SPREAD, size, "ab")
        for line in odd_things() + ["", "x", "<a", ["a"], ("a",)]:
            self.assertRaises(OutOfPlace, rank_sum, SPREAD, 2, line)
            # A line is looked at also where there are no ranks, and ahead of the table.
            self.assertRaises(OutOfPlace, rank_sum, RING, 2, line)
            self.assertRaises(OutOfPlace, rank_sum, GREAT, 4, line)
        self.assertRaises(OutOfPlace, lively, GREAT, 5)
        self.assertRaises(OutOfPlace, ranks, GREAT, 1)


if __name__ == "__main__":
    unittest.main()
