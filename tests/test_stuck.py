"""Promise [5], of stuck lines: what is free, the shortest stuck line, the paper that is found, those that are taken."""

import random
import unittest

from tests.samples import (
    ALONE, DEAD_STARTS, EDGES, FREE_3, FREE_4, GREATEST, LEAST, LONG_6, LONG_7, NO_STARTS, RING, SAMPLES, SPREAD,
    SPREAD_BAD, Odd, all_pairs, all_windows, drawn_task, odd_things, slow_fitting, slow_is_stuck,
)
from towerline.errors import BadPaper, BadTask, OutOfPlace, TooGreat
from towerline.rules import is_end, is_start, is_stuck, moves, run_end
from towerline.runs import lines_that_come, stuck_run
from towerline.stuck import check_free, free_paper, is_free, stuck_line
from towerline.windows import does_fit, is_closed, table_of

SPREAD_2 = ("<b", "a>", "aa", "b>", "ba", "bb")
ALL_IDLE = (("<", "b", ">", "a"),)

# All lines come, the first stuck one behind one move; the table of size 4 has too many windows.
GREAT = (GREATEST[0], (("<", "a", ">", "b"),), all_pairs("abcdez"), (), ())


class Free(unittest.TestCase):
    def test_each_size(self):
        for task, told in (
            (SPREAD, (True, True, True)), (SPREAD_BAD, (False, False, False)), (FREE_3, (False, True, True)),
            (FREE_4, (False, False, True)), (RING, (True, True, True)), (ALONE, (False, False, False)),
            (LONG_7, (False, False, False)), (NO_STARTS, (True, True, True)), (DEAD_STARTS, (True, True, True)),
        ):
            for size, free in zip((2, 3, 4), told):
                self.assertIs(is_free(task, size), free, (task, size))
                self.assertIs(stuck_line(task, size) is None, free)

    def test_lines_of_one_tower(self):
        for size in (2, 3, 4):
            self.assertEqual(stuck_line(SPREAD_BAD, size), "b")
            self.assertEqual(stuck_line(LEAST[:2] + (("<y", "<z", "y>", "z>"), (), ()), size), "z")
            # "z" is an end, "y" moves, and each longer line would be stuck.
            task = LEAST[:2] + (("<y", "<z", "y>", "z>"), (), ("<z", "z>"))
            self.assertIsNone(stuck_line(task, size))
            longer = LEAST[:2] + (all_pairs("yz"), (), ("<z", "z>"))
            self.assertEqual(len(stuck_line(longer, size)), 2)

    def test_ends_are_not_stuck(self):
        # All lines rest. Those that are ends have all of their pairs in ENDS.
        for size in (2, 3, 4):
            rest = ("ab", (("<", "b", ">", "a"),), ("<a", "a>", "aa"), (), ())
            for ends, line in (
                (("<a", "a>", "aa"), None), (("<a", "a>"), "aa"), (("<a", "aa"), "a"), (("a>", "aa"), "a"),
                ((), "a"), (("<a", "a>", "aa", "ab", "b>"), None), (("<b", "b>", "bb"), "a"),
            ):
                self.assertEqual(stuck_line(rest[:4] + (ends,), size), line, (size, ends))

    def test_a_line_with_a_rule_that_may_act_is_not_stuck(self):
        # Only what has no "ab" rests: "b", "ba", "bba" and so on; they are ends but for those with "aa".
        task = ("ab", (("<ab", "a", "b", "b"),), all_pairs("ab"), (), ("<a", "<b", "a>", "b>", "ba", "bb"))
        for size in (2, 3, 4):
            self.assertEqual(stuck_line(task, size), "aa")
            self.assertIs(is_stuck(task, "aa"), True)
            self.assertIsNone(stuck_line(task[:4] + (all_pairs("ab"),), size))

    def test_as_few_towers_as_any(self):
        for size in (2, 3, 4):
            self.assertEqual(stuck_line(LONG_6, size), "abcdea")
            self.assertEqual(len(stuck_line(LONG_7, size)), 7)
            self.assertEqual(stuck_line(LONG_7, size), "abcdefa")

    def test_against_all_short_lines(self):
        draw = random.Random(53)
        lengths = []
        for task in SAMPLES + (LONG_6, LONG_7) + tuple(drawn_task(draw, 2 + at % 2) for at in range(120)):
            for size in (2, 3, 4):
                table = table_of(task, size)
                lines = [line for line in slow_fitting(size, table, task[0], 7) if slow_is_stuck(task, line)]
                found = stuck_line(task, size)
                self.assertIs(is_free(task, size), found is None)
                if not lines:
                    self.assertIsNone(found, (task, size))
                else:
                    self.assertEqual(len(found), len(lines[0]))
                    self.assertIn(found, lines)
                    lengths.append(len(found))
                self.assertEqual(stuck_line(task, size), found)
        self.assertLessEqual({1, 2, 3, 6, 7}, set(lengths))
        self.assertGreater(len(lengths), 100)

    def test_long_lines(self):
        signs = "abcdef"
        # Each sign leads to the next one, "f" back to "a" or to ">": lines of 6, 12, 18 and more towers.
        rounds = (signs, ALL_IDLE, ("<a", "ab", "bc", "cd", "de", "ef", "f>", "fa"), (), ())
        for size in (2, 3, 4):
            self.assertEqual(stuck_line(rounds, size), signs)
            self.assertEqual(
                stuck_line(rounds[:4] + (("<a", "ab", "bc", "cd", "de", "ef", "f>"),), size), signs * 2
            )
            self.assertIsNone(stuck_line(rounds[:4] + (rounds[2],), size))

    def test_facts(self):
        draw = random.Random(59)
        for at in range(60):
            task = drawn_task(draw, 2 + at % 2)
            free = [is_free(task, size) for size in (2, 3, 4)]
            self.assertEqual(free, sorted(free))
            for size in (2, 3, 4):
                line = stuck_line(task, size)
                if line is not None:
                    self.assertIs(does_fit(task, table_of(task, size), line), True)
                    self.assertIs(is_stuck(task, line), True)
                    self.assertEqual(moves(task, line), ())
                    self.assertIs(is_end(task, line), False)
                else:
                    for towers in (1, 2, 3, 4):
                        self.assertIsNone(stuck_run(task, towers))

    def test_too_great(self):
        self.assertIs(is_free(GREAT, 3), False)
        for call in (is_free, stuck_line):
            with self.assertRaises(TooGreat) as caught:
                call(GREAT, 4)
            self.assertEqual(caught.exception.most, 500)

    def test_refused(self):
        for call in (is_free, stuck_line):
            for size in odd_things() + [0, 1, 5, "2"]:
                self.assertRaises(OutOfPlace, call, SPREAD, size)
            self.assertRaises(OutOfPlace, call, GREAT, 5)


class Found(unittest.TestCase):
    def test_the_table_of_the_least_size(self):
        for task, size in (
            (SPREAD, 2), (RING, 2), (FREE_3, 3), (FREE_4, 4), (NO_STARTS, 2), (DEAD_STARTS, 2), (LEAST, 2),
        ):
            self.assertEqual(free_paper(task), ("free", table_of(task, size)))
        self.assertEqual(free_paper(SPREAD), ("free", SPREAD_2))
        self.assertEqual(free_paper(NO_STARTS), ("free", ()))

    def test_the_table_of_the_least_size_is_looked_for_no_further(self):
        task = GREAT[:4] + (all_pairs("abcdez"),)
        self.assertEqual(free_paper(task), ("free", table_of(task, 2)))
        self.assertRaises(TooGreat, lines_that_come, task, 6)

    def test_a_run_of_the_fewest_towers(self):
        self.assertEqual(free_paper(SPREAD_BAD), ("stuck", "b", ()))
        self.assertEqual(free_paper(ALONE), ("stuck", "xx", ()))
        self.assertEqual(free_paper(LONG_6), ("stuck", "abcdea", ()))
        steps = ("abc", (("<", "a", ">", "b"), ("<", "b", ">", "c")), ("<a", "a>"), (), ())
        self.assertEqual(free_paper(steps), ("stuck", "a", ((0, 0), (0, 1))))

    def test_neither(self):
        self.assertIsNone(free_paper(LONG_7))
        self.assertEqual(stuck_run(LONG_7, 7), ("abcdefa", ()))
        self.assertEqual(check_free(LONG_7, ("stuck",) + stuck_run(LONG_7, 7)), "stuck")

    def test_against_the_other_modules(self):
        draw = random.Random(61)
        words = []
        for task in SAMPLES + (LONG_6, LONG_7) + tuple(drawn_task(draw, 2 + at % 2) for at in range(150)):
            paper = free_paper(task)
            self.assertEqual(free_paper(task), paper)
            sizes = [size for size in (2, 3, 4) if is_free(task, size)]
            runs = [stuck_run(task, towers) for towers in range(1, 7)]
            if sizes:
                self.assertEqual(paper, ("free", table_of(task, sizes[0])))
                self.assertEqual(runs, [None] * 6)
            elif any(runs):
                run = next(run for run in runs if run is not None)
                self.assertEqual((paper[0], len(paper[1]), len(paper[2])), ("stuck", len(run[0]), len(run[1])))
                self.assertIs(is_start(task, paper[1]), True)
                self.assertIs(is_stuck(task, run_end(task, paper[1], paper[2])), True)
            else:
                self.assertIsNone(paper)
            if paper is not None:
                self.assertEqual(check_free(task, paper), paper[0])
                words.append(paper[0])
        self.assertGreater(min(words.count("free"), words.count("stuck")), 30)

    def test_too_great(self):
        # A run of one tower leads to a stuck line, but the table of size 4 is looked for ahead of it.
        self.assertEqual(stuck_run(GREAT, 1)[1], ())
        with self.assertRaises(TooGreat) as caught:
            free_paper(GREAT)
        self.assertEqual(caught.exception.most, 500)
        # So many lines have too great a table: see the same of sound_paper.
        with self.assertRaises(TooGreat) as caught:
            stuck_run(GREAT, 6)
        self.assertEqual(caught.exception.most, 20000)


class Taken(unittest.TestCase):
    def refused(self, task, paper, part):
        with self.subTest(task=task, paper=repr(paper)):
            with self.assertRaises(BadPaper) as caught:
                check_free(task, paper)
            self.assertEqual(caught.exception.part, part)

    def test_tables(self):
        for size in (2, 3, 4):
            self.assertEqual(check_free(SPREAD, ("free", table_of(SPREAD, size))), "free")
            self.assertEqual(check_free(RING, ("free", table_of(RING, size))), "free")
            self.refused(SPREAD_BAD, ("free", table_of(SPREAD_BAD, size)), "free")
        self.assertEqual(check_free(FREE_3, ("free", table_of(FREE_3, 4))), "free")
        self.refused(FREE_3, ("free", table_of(FREE_3, 2)), "free")
        self.refused(FREE_4, ("free", table_of(FREE_4, 3)), "free")
        self.assertEqual(check_free(FREE_4, ("free", table_of(FREE_4, 4))), "free")

    def test_a_window_less(self):
        for task, size in ((SPREAD, 2), (SPREAD, 3), (SPREAD, 4), (FREE_3, 3), (FREE_4, 4)):
            table = table_of(task, size)
            for window in table:
                self.refused(task, ("free", tuple(one for one in table if one != window)), "free")

    def test_a_window_more(self):
        words = []
        for task, size in ((SPREAD, 2), (SPREAD, 3), (FREE_3, 3), (FREE_4, 4)):
            table = table_of(task, size)
            for window in all_windows(task[0], size):
                if window in table:
                    continue
                greater = tuple(sorted(table + (window,)))
                holds = is_closed(task, greater) and not any(
                    slow_is_stuck(task, line) for line in slow_fitting(size, greater, task[0], 8)
                )
                if holds:
                    self.assertEqual(check_free(task, ("free", greater)), "free")
                else:
                    self.refused(task, ("free", greater), "free")
                words.append(holds)
        self.assertIn(False, words)
        self.assertIn(True, words)

    def test_greater_closed_tables(self):
        # With "ab" there are more lines, and each of them can move or is an end; with "<a" "a" is stuck.
        self.assertIs(is_closed(SPREAD, ("<b", "a>", "aa", "ab", "b>", "ba", "bb")), True)
        self.assertEqual(check_free(SPREAD, ("free", ("<b", "a>", "aa", "ab", "b>", "ba", "bb"))), "free")
        self.assertIs(is_closed(SPREAD, ("<a", "<b", "a>", "aa", "b>", "ba", "bb")), True)
        self.refused(SPREAD, ("free", ("<a", "<b", "a>", "aa", "b>", "ba", "bb")), "free")
        # "<aa" is a window of no line that fits, as "<<a" is missing.
        dead = tuple(sorted(table_of(SPREAD, 3) + ("<aa",)))
        self.assertEqual(check_free(SPREAD, ("free", dead)), "free")
        self.assertEqual(check_free(GREAT[:4] + (all_pairs("abcdez"),), ("free", all_windows("abcdez", 4))), "free")

    def test_the_empty_table(self):
        for task in (NO_STARTS, DEAD_STARTS, LEAST):
            self.assertEqual(check_free(task, ("free", ())), "free")
        for task in (SPREAD, RING, ALONE, FREE_3):
            self.refused(task, ("free", ()), "free")

    def test_what_is_no_table(self):
        for thing in odd_things() + ["", "<b", ["<b"], list(SPREAD_2), SPREAD_2[::-1], SPREAD_2 + ("bb",), (1,),
                                     ("<b", "<<b"), ("<>",), ("<",), ("<c", "c>"), ("abbab",), (None, "a>"), (Odd(),)]:
            self.refused(SPREAD, ("free", thing), "free")

    def test_runs(self):
        self.assertEqual(check_free(SPREAD_BAD, ("stuck", "b", ())), "stuck")
        self.assertEqual(check_free(SPREAD_BAD, ("stuck", "baa", ((1, 0), (2, 0)))), "stuck")
        self.assertEqual(check_free(ALONE, ("stuck", "x" * 30, ())), "stuck")
        self.assertEqual(check_free(LONG_7, ("stuck", "abcdefabcdefa", ())), "stuck")

    def test_runs_of_1000_moves(self):
        # "a" and "b" change for ever, until "c" comes, which stays.
        task = ("abc", (("<", "a", ">", "b"), ("<", "b", ">", "a"), ("<", "a", ">", "c")), ("<a", "<b", "a>", "b>"),
                (), ())
        there_and_back = ((0, 0), (0, 1))
        self.assertEqual(check_free(task, ("stuck", "a", ((0, 2),))), "stuck")
        self.assertEqual(check_free(task, ("stuck", "a", there_and_back * 499 + ((0, 2),))), "stuck")
        thousand = ((0, 1),) + there_and_back * 499 + ((0, 2),)
        self.assertEqual(len(thousand), 1000)
        self.assertEqual(check_free(task, ("stuck", "b", thousand)), "stuck")
        self.refused(task, ("stuck", "a", there_and_back * 500 + ((0, 2),)), "stuck")
        self.refused(task, ("stuck", "a", there_and_back * 500), "stuck")

    def test_runs_that_are_none(self):
        for line in ("bb", "a", "ab", "", "c", "<ba"):
            self.refused(SPREAD_BAD, ("stuck", line, ()), "stuck")
            self.refused(SPREAD_BAD, ("stuck", line, ((1, 0),)), "stuck")
        for codes in (
            (), ((0, 0),), ((1, 1),), ((1, 0), (1, 0)), ((1, 0),), ((2, 0), (1, 0)), ((-1, 0),), ((True, 0),),
            ((1, 0), (2, False)), ((1,),), ((1, 0, 0),), ([1, 0],), [(1, 0), (2, 0)], (1, 0), None,
        ):
            self.refused(SPREAD_BAD, ("stuck", "baa", codes), "stuck")
        # "bbb" is an end.
        self.refused(SPREAD, ("stuck", "baa", ((1, 0), (2, 0))), "stuck")
        self.refused(EDGES, ("stuck", "aa", ((0, 0), (1, 1))), "stuck")
        for thing in odd_things() + [(Odd(),), ((Odd(), 0),), ((0, Odd()),)]:
            self.refused(SPREAD_BAD, ("stuck", thing, ()), "stuck")
            self.refused(SPREAD_BAD, ("stuck", "b", thing), "stuck")
            self.refused(SPREAD_BAD, ("stuck", "ba", ((1, 0), thing)), "stuck")

    def test_other_forms(self):
        table, run = ("free", SPREAD_2), ("stuck", "b", ())
        for task in (SPREAD, SPREAD_BAD, NO_STARTS):
            for paper in odd_things() + [
                (), "free", "stuck", ("free",), ("stuck",), list(table), list(run), table + ((),), run + ((),),
                run[:2], ("free",) + run[1:], ("stuck",) + table[1:], ("sound",) + table[1:], ("wrong",) + run[1:],
                ("form",) + table[1:], ("Free",) + table[1:], ("",) + run[1:], (b"free",) + table[1:],
                (None,) + table[1:], (True,) + run[1:], (("free",),) + table[1:], (Odd(), ()), (Odd(), "a", ()),
                (["stuck"],) + run[1:], table[::-1], run[::-1], {"free": SPREAD_2}, (table,), (run,),
            ]:
                self.refused(task, paper, "form")

    def test_there_are_never_both(self):
        for task in SAMPLES:
            paper = free_paper(task)
            if paper is not None and paper[0] == "stuck":
                for size in (2, 3, 4):
                    self.refused(task, ("free", table_of(task, size)), "free")
                    self.refused(task, ("free", all_windows(task[0], size)), "free")

    def test_the_task_comes_first(self):
        self.assertRaises(BadTask, check_free, SPREAD[:4], ("free", SPREAD_2))
        self.assertRaises(BadTask, check_free, SPREAD[:4], None)


if __name__ == "__main__":
    unittest.main()
