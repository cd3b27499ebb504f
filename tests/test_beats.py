"""Promise [8]: beats, fates, the line behind so many beats."""

import random
import unittest
from unittest import mock

from tests.samples import (
    ALONE, EDGES, GREATEST, RING, SAMPLES, SPREAD, drawn_task, lines_up_to, odd_things, slow_beat, slow_orbit,
)
from towerline import beats
from towerline.beats import beat, fate, line_at
from towerline.errors import OutOfPlace
from towerline.rules import after, moves

MOST = 10 ** 30

# Each tower counts, from "a" on, how often the one to its left shows the last sign.
COUNT = (
    "abc",
    (("<c", "a", ">abc", "b"), ("<c", "b", ">abc", "c"), ("<abc", "c", ">abc", "a")),
    (), (), (),
)
# A "b" goes round between the edges: to the right as "b", to the left as "c".
BALL = (
    "abcd",
    (
        ("<abd", "b", "ad", "a"), ("b", "a", "ad", "b"), ("b", "a", ">", "c"), ("ab", "c", ">ad", "a"),
        ("<ad", "a", "c", "c"), ("<", "c", "ad", "b"),
    ),
    (), (), (),
)


def in_turn(task, line, many):
    """The lines behind 0, 1, 2 and more beats."""
    found = [line]
    for _ in range(many):
        found.append(beat(task, found[-1]))
    return found


class Beats(unittest.TestCase):
    def test_all_towers_move_at_once(self):
        self.assertEqual(beat(RING, "abba"), "baab")
        self.assertEqual(beat(RING, "a" * 12), "b" * 12)
        self.assertEqual(beat(ALONE, "x"), "y")
        self.assertEqual(beat(ALONE, "xx"), "xx")

    def test_by_what_stood_ahead_of_the_beat(self):
        # By what stands behind the first tower's move all others would move, too.
        self.assertEqual(beat(SPREAD, "baaa"), "bbaa")
        self.assertEqual(beat(SPREAD, "babaa"), "bbbba")
        mirrored = ("ab", (("<ab", "a", "b", "b"),), (), (), ())
        self.assertEqual(beat(mirrored, "aaab"), "aabb")
        swap = ("ab", (("<ab", "a", "b", "b"), ("a", "b", ">ab", "a")), (), (), ())
        self.assertEqual(beat(swap, "ab"), "ba")
        self.assertEqual(beat(swap, "aab"), "aba")

    def test_the_first_of_several_rules(self):
        rules = (("<", "a", ">", "c"), ("<ab", "a", ">ab", "b"), ("<", "a", ">", "d"))
        self.assertEqual(beat(("abcd", rules, (), (), ()), "a"), "c")
        self.assertEqual(beat(("abcd", rules[1:], (), (), ()), "a"), "b")
        self.assertEqual(beat(("abcd", rules[::-1], (), (), ()), "a"), "d")
        self.assertEqual(beat(("abcd", rules, (), (), ()), "aa"), "bb")
        self.assertEqual(beat(EDGES, "baa"), "bcc")
        self.assertEqual(beat(EDGES, "bac"), "bbc")

    def test_edges(self):
        self.assertEqual(beat(EDGES, "a"), "a")
        self.assertEqual(beat(EDGES, "aa"), "bc")
        self.assertEqual(beat(EDGES, "aaa"), "bac")

    def test_against_the_words_of_the_document(self):
        draw = random.Random(83)
        for task in SAMPLES + (COUNT, BALL) + tuple(drawn_task(draw, 2 + at % 3) for at in range(60)):
            for line in lines_up_to(task[0], 4):
                self.assertEqual(beat(task, line), slow_beat(task, line))
                first = {}
                for tower, number in moves(task, line):
                    first.setdefault(tower, number)
                told = list(line)
                for tower, number in first.items():
                    told[tower] = after(task, line, (tower, number))[tower]
                self.assertEqual(beat(task, line), "".join(told))


class Fates(unittest.TestCase):
    def test_a_line_at_rest(self):
        self.assertEqual(fate(SPREAD, "b"), (0, 1))
        self.assertEqual(fate(SPREAD, "aaa"), (0, 1))
        self.assertEqual(fate(ALONE, "x" * 12), (0, 1))

    def test_a_line_that_comes_to_rest(self):
        self.assertEqual(fate(SPREAD, "baaa"), (3, 1))
        self.assertEqual(fate(SPREAD, "b" + "a" * 11), (11, 1))
        self.assertEqual(fate(ALONE, "x"), (2, 1))

    def test_a_line_that_comes_again(self):
        self.assertEqual(fate(RING, "a"), (0, 2))
        self.assertEqual(fate(RING, "ab" * 6), (0, 2))
        self.assertEqual(fate(COUNT, "a"), (0, 3))
        self.assertEqual(fate(BALL, "baaa"), (0, 7))

    def test_a_line_that_comes_again_behind_some_beats(self):
        self.assertEqual(fate(COUNT, "aaaa"), (3, 24))
        self.assertEqual(fate(COUNT, "a" * 12), (11, 6144))
        ring = ("abc", (("<", "a", ">", "b"), ("<", "b", ">", "c"), ("<", "c", ">", "b")), (), (), ())
        self.assertEqual(fate(ring, "a"), (1, 2))
        self.assertEqual(fate(ring, "b"), (0, 2))

    def test_against_the_words_of_the_document(self):
        draw = random.Random(89)
        told = []
        for task in SAMPLES + (COUNT, BALL) + tuple(drawn_task(draw, 2 + at % 4) for at in range(300)):
            line = "".join(draw.choice(task[0]) for _ in range(draw.randint(1, 12)))
            lines, first = slow_orbit(task, line)
            many = len(lines) - first
            self.assertEqual(fate(task, line), (first, many), (task, line))
            self.assertEqual(fate(task, line), (first, many))
            told.append((min(first, 2), min(many, 3)))
            for count in (0, 1, first, first + many, draw.randint(0, 50), draw.randint(0, MOST), MOST):
                at = count if count < first else first + (count - first) % many
                self.assertEqual(line_at(task, line, count), lines[at], (task, line, count))
        self.assertLessEqual({(0, 1), (0, 2), (0, 3), (1, 1), (1, 2), (2, 1), (2, 2)}, set(told))

    def test_the_least_numbers_when_few_lines_are_kept(self):
        draw = random.Random(97)
        cases = [(COUNT, "a" * 7), (COUNT, "abcab"), (BALL, "baaa"), (SPREAD, "baaaaaaaaaaa"), (RING, "ab")]
        for at in range(150):
            task = drawn_task(draw, 3 + at % 3)
            cases.append((task, "".join(draw.choice(task[0]) for _ in range(draw.randint(1, 12)))))
        for most in (2, 3, 4, 7, 16):
            for task, line in cases:
                lines, first = slow_orbit(task, line)
                many = len(lines) - first
                with mock.patch.object(beats, "MOST_KEPT", most):
                    self.assertEqual(fate(task, line), (first, many), (most, task, line))
                    for count in (0, 1, 2, 5, first, first + 1, len(lines), 100, 1000, MOST):
                        at = count if count < first else first + (count - first) % many
                        self.assertEqual(line_at(task, line, count), lines[at], (most, task, line, count))


class Behind(unittest.TestCase):
    def test_line_at(self):
        self.assertEqual([line_at(SPREAD, "baaa", count) for count in range(6)],
                         ["baaa", "bbaa", "bbba", "bbbb", "bbbb", "bbbb"])
        self.assertEqual([line_at(BALL, "baaa", count) for count in range(9)], in_turn(BALL, "baaa", 8))

    def test_0_beats(self):
        for task in SAMPLES:
            for line in lines_up_to(task[0], 2):
                self.assertEqual(line_at(task, line, 0), line)
                self.assertEqual(line_at(task, line, 1), beat(task, line))

    def test_10_to_the_30_beats(self):
        self.assertEqual(line_at(SPREAD, "baaa", MOST), "bbbb")
        self.assertEqual(line_at(RING, "abba", MOST), "abba")
        self.assertEqual(line_at(RING, "abba", MOST - 1), "baab")
        # 10 ** 30 leaves 1 by 3, and 3 and 24 divide what is left so.
        self.assertEqual(line_at(COUNT, "a", MOST), "b")
        _, many = fate(COUNT, "a" * 12)
        lines = in_turn(COUNT, "a" * 12, 11 + many)
        self.assertEqual(line_at(COUNT, "a" * 12, MOST), lines[11 + (MOST - 11) % many])
        self.assertEqual(line_at(COUNT, "a" * 12, 6000), lines[6000])

    def test_few_beats_of_a_long_way(self):
        # Some hundred million lines come here: they are not gone through.
        long = tuple(("<f", one, ">abcdef", two) for one, two in zip("abcde", "bcdef"))
        task = ("abcdef", long + (("<abcdef", "f", ">abcdef", "a"),), (), (), ())
        self.assertEqual(line_at(task, "a" * 12, 5), "f" + "a" * 11)
        self.assertEqual(line_at(task, "a" * 12, 1000), in_turn(task, "a" * 12, 1000)[-1])


class Limits(unittest.TestCase):
    def calls(self, task, line):
        return (lambda: beat(task, line), lambda: fate(task, line), lambda: line_at(task, line, 1))

    def test_lines_of_at_most_12_towers(self):
        for line in ("a" * 12, "ab" * 6, "b" * 12):
            for call in self.calls(SPREAD, line):
                call()
        for line in odd_things() + ["", "c", "<a", "a>", ["a"], ("a",), "a" * 13, "ab" * 10, "b" * 20000]:
            for call in self.calls(SPREAD, line):
                with self.subTest(repr(line)):
                    self.assertRaises(OutOfPlace, call)
        self.assertEqual(beat(GREATEST, "abcdez" * 2), slow_beat(GREATEST, "abcdez" * 2))

    def test_numbers_of_beats(self):
        for count in odd_things() + [-2, MOST + 1, "1", "", (1,), [0]]:
            with self.subTest(repr(count)):
                self.assertRaises(OutOfPlace, line_at, SPREAD, "ba", count)
        self.assertRaises(OutOfPlace, line_at, SPREAD, "a" * 13, MOST + 1)


if __name__ == "__main__":
    unittest.main()
