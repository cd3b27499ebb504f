"""Promise [5], of bad lines: what is sound, the paper that is found, the papers that are taken."""

import random
import unittest

from tests.samples import (
    ALONE, DEAD_STARTS, EDGES, GREATEST, LEAST, LONG_6, LONG_7, NO_STARTS, RING, SAMPLES, SOUND_3, SOUND_4, SPREAD,
    SPREAD_BAD, UNTOLD, Odd, all_pairs, all_windows, drawn_task, odd_things, slow_fitting, slow_is_bad,
)
from towerline.always import check_sound, is_sound, sound_paper
from towerline.errors import BadPaper, BadTask, OutOfPlace, TooGreat
from towerline.rules import is_bad, is_start, run_end
from towerline.runs import bad_run, lines_that_come
from towerline.windows import does_fit, is_closed, table_of

SPREAD_2 = ("<b", "a>", "aa", "b>", "ba", "bb")
THERE_AND_BACK = ((0, 0), (0, 1))

# The tables of sizes 2 and 3 have bad lines, that of size 4 has too many windows.
GREAT = (GREATEST[0], GREATEST[1], ("<a", "a>", "aa"), ("b",), ())
# There are 5 ** 6 lines of six towers and more, and more windows than 500.
MANY = ("abcdef", (("<", "a", ">", "b"),), all_pairs("abcdef"), ("ab",), ())


class Sound(unittest.TestCase):
    def test_each_size(self):
        for task, told in (
            (SPREAD, (True, True, True)), (SPREAD_BAD, (False, False, False)), (SOUND_3, (False, True, True)),
            (SOUND_4, (False, False, True)), (UNTOLD, (False, False, False)), (ALONE, (False, False, False)),
            (LONG_7, (False, False, False)), (NO_STARTS, (True, True, True)), (DEAD_STARTS, (True, True, True)),
        ):
            self.assertEqual(tuple(is_sound(task, size) for size in (2, 3, 4)), told, task)
            for size, sound in zip((2, 3, 4), told):
                self.assertIs(is_sound(task, size), sound)

    def test_bad_strings_of_each_form(self):
        # All lines of "a" and "b" fit the tables of RING; those of IDLE begin with "a" and end with "b".
        idle = ("ab", (("<", "b", ">", "a"),), ("<a", "aa", "ab", "b>", "bb"), (), ())
        for word in ("a", "b", "<a", "ab", "b>", "<aa", "<ab", "aab", "abb", "bb>", "ab>", "aaa"):
            for size in (2, 3, 4):
                self.assertIs(is_sound(RING[:3] + ((word,), ()), size), False, word)
                self.assertIs(is_sound(idle[:3] + ((word,), ()), size), False, word)
        for word in ("<b", "a>", "<b>", "<a>", "ba", "aba", "bab", "<ba", "ba>", "aa>", "<bb"):
            for size in (2, 3, 4):
                self.assertIs(is_sound(RING[:3] + ((word,), ()), size), False, word)
                self.assertIs(is_sound(idle[:3] + ((word,), ()), size), True, word)

    def test_without_bad_strings_all_is_sound(self):
        for task in SAMPLES:
            for size in (2, 3, 4):
                self.assertIs(is_sound(task[:3] + ((), task[4]), size), True)

    def test_one_of_several_bad_strings_is_enough(self):
        self.assertIs(is_sound(SPREAD[:3] + (("ab",), ()), 2), True)
        self.assertIs(is_sound(SPREAD[:3] + (("ab", "bb"), ()), 2), False)
        self.assertIs(is_sound(SPREAD[:3] + (("aa", "ab"), ()), 2), False)

    def test_against_all_short_lines(self):
        draw = random.Random(43)
        told = []
        for at in range(120):
            task = drawn_task(draw, 2 + at % 2)
            for size in (2, 3, 4):
                lines = slow_fitting(size, table_of(task, size), task[0], 7)
                sound = not any(slow_is_bad(task, line) for line in lines)
                self.assertIs(is_sound(task, size), sound, (task, size))
                told.append(sound)
        self.assertGreater(min(told.count(True), told.count(False)), 50)

    def test_too_great(self):
        self.assertIs(is_sound(GREAT, 3), False)
        for task in (GREAT, MANY):
            with self.assertRaises(TooGreat) as caught:
                is_sound(task, 4)
            self.assertEqual(caught.exception.most, 500)

    def test_refused(self):
        for size in odd_things() + [0, 1, 5, "2"]:
            self.assertRaises(OutOfPlace, is_sound, SPREAD, size)
        # The arguments are looked at ahead of the table.
        self.assertRaises(OutOfPlace, is_sound, GREAT, 5)


class Found(unittest.TestCase):
    def test_the_table_of_the_least_size(self):
        for task, size in ((SPREAD, 2), (SOUND_3, 3), (SOUND_4, 4), (NO_STARTS, 2), (DEAD_STARTS, 2), (LEAST, 2)):
            self.assertEqual(sound_paper(task), ("sound", table_of(task, size)))
        self.assertEqual(sound_paper(SPREAD), ("sound", SPREAD_2))
        self.assertEqual(sound_paper(NO_STARTS), ("sound", ()))
        self.assertEqual(sound_paper(SOUND_3), ("sound", ("<<i", "<ii", "<is", "i>>", "ii>", "is>", "s>>")))

    def test_the_table_of_the_least_size_is_looked_for_no_further(self):
        # Of size 4 there would be too many windows.
        task = GREAT[:3] + ((), ())
        self.assertEqual(sound_paper(task), ("sound", table_of(task, 2)))
        self.assertEqual(len(lines_that_come(task, 5)), 6 ** 5)
        self.assertRaises(TooGreat, lines_that_come, task, 6)

    def test_a_run_of_the_fewest_towers(self):
        self.assertEqual(sound_paper(SPREAD_BAD), ("wrong", "ba", ((1, 0),)))
        self.assertEqual(sound_paper(ALONE), ("wrong", "x", THERE_AND_BACK))
        self.assertEqual(sound_paper(LONG_6), ("wrong", "abcdea", ()))
        self.assertIn(sound_paper(EDGES)[2], (((0, 0), (1, 1)), ((1, 1), (0, 0))))
        self.assertIn(sound_paper(RING), (("wrong", "a", ((0, 0),)), ("wrong", "a", ((0, 2),))))

    def test_neither(self):
        self.assertIsNone(sound_paper(UNTOLD))
        # A run of seven towers would do, but is not looked for.
        self.assertIsNone(sound_paper(LONG_7))
        self.assertEqual(bad_run(LONG_7, 7), ("abcdefa", ()))
        self.assertEqual(check_sound(LONG_7, ("wrong",) + bad_run(LONG_7, 7)), "wrong")

    def test_against_the_other_modules(self):
        draw = random.Random(47)
        words = []
        for task in SAMPLES + (LONG_6, LONG_7) + tuple(drawn_task(draw, 2 + at % 2) for at in range(150)):
            paper = sound_paper(task)
            self.assertEqual(sound_paper(task), paper)
            sizes = [size for size in (2, 3, 4) if is_sound(task, size)]
            runs = [bad_run(task, towers) for towers in range(1, 7)]
            if sizes:
                self.assertEqual(paper, ("sound", table_of(task, sizes[0])))
                # What is sound for one size is so for greater ones, and then nothing bad comes.
                self.assertEqual(sizes, list(range(sizes[0], 5)))
                self.assertEqual(runs, [None] * 6)
            elif any(runs):
                run = next(run for run in runs if run is not None)
                self.assertEqual((paper[0], len(paper[1]), len(paper[2])), ("wrong", len(run[0]), len(run[1])))
                self.assertIs(is_start(task, paper[1]), True)
                self.assertIs(is_bad(task, run_end(task, paper[1], paper[2])), True)
            else:
                self.assertIsNone(paper)
            if paper is not None:
                self.assertEqual(check_sound(task, paper), paper[0])
                words.append(paper[0])
        self.assertGreater(min(words.count("sound"), words.count("wrong")), 30)

    def test_too_great(self):
        # The table of size 4 is looked for ahead of all runs.
        self.assertEqual(len(bad_run(GREAT, 1)[1]), 1)
        for task in (GREAT, MANY):
            with self.assertRaises(TooGreat) as caught:
                sound_paper(task)
            self.assertEqual(caught.exception.most, 500)

    def test_too_many_lines_make_too_great_tables(self):
        # More than 20,000 lines of six towers are not made of at most 500 windows of size 4: a line is a pair and
        # a window, so there are at most 36 * 500. So TooGreat(500) is due, where TooGreat(20000) could be.
        self.assertLess(36 * 500, 20000)
        with self.assertRaises(TooGreat) as caught:
            bad_run(MANY, 6)
        self.assertEqual(caught.exception.most, 20000)


class Taken(unittest.TestCase):
    def refused(self, task, paper, part):
        with self.subTest(task=task, paper=repr(paper)):
            with self.assertRaises(BadPaper) as caught:
                check_sound(task, paper)
            self.assertEqual(caught.exception.part, part)

    def test_tables(self):
        for size in (2, 3, 4):
            self.assertEqual(check_sound(SPREAD, ("sound", table_of(SPREAD, size))), "sound")
        self.assertEqual(check_sound(SOUND_3, ("sound", table_of(SOUND_3, 4))), "sound")
        self.refused(SOUND_3, ("sound", table_of(SOUND_3, 2)), "sound")
        self.refused(SOUND_4, ("sound", table_of(SOUND_4, 3)), "sound")
        self.assertEqual(check_sound(SOUND_4, ("sound", table_of(SOUND_4, 4))), "sound")
        self.refused(UNTOLD, ("sound", table_of(UNTOLD, 4)), "sound")

    def test_a_window_less(self):
        for task, size in ((SPREAD, 2), (SPREAD, 3), (SPREAD, 4), (SOUND_3, 3), (SOUND_4, 4)):
            table = table_of(task, size)
            for window in table:
                self.refused(task, ("sound", tuple(one for one in table if one != window)), "sound")

    def test_a_window_more(self):
        words = []
        for task, size in ((SPREAD, 2), (SPREAD, 3), (SOUND_3, 3), (SOUND_4, 4)):
            table = table_of(task, size)
            for window in all_windows(task[0], size):
                if window in table:
                    continue
                greater = tuple(sorted(table + (window,)))
                holds = is_closed(task, greater) and not any(
                    slow_is_bad(task, line) for line in slow_fitting(size, greater, task[0], 8)
                )
                if holds:
                    self.assertEqual(check_sound(task, ("sound", greater)), "sound")
                else:
                    self.refused(task, ("sound", greater), "sound")
                words.append(holds)
        self.assertIn(False, words)
        self.assertIn(True, words)

    def test_greater_closed_tables(self):
        # With "<a" all lines of "a" fit, too, and stay; with "ab" bad ones do.
        self.assertEqual(check_sound(SPREAD, ("sound", ("<a", "<b", "a>", "aa", "b>", "ba", "bb"))), "sound")
        self.refused(SPREAD, ("sound", ("<b", "a>", "aa", "ab", "b>", "ba", "bb")), "sound")
        self.refused(SPREAD, ("sound", all_windows("ab", 2)), "sound")
        # "aba" is a window of no line that fits, so that "ab" stands in none.
        dead = tuple(sorted(table_of(SPREAD, 3) + ("aba",)))
        self.assertEqual(check_sound(SPREAD, ("sound", dead)), "sound")
        self.assertEqual(check_sound(GREATEST[:3] + ((), ()), ("sound", all_windows("abcdez", 4))), "sound")

    def test_the_empty_table(self):
        for task in (NO_STARTS, DEAD_STARTS, LEAST):
            self.assertEqual(check_sound(task, ("sound", ())), "sound")
        for task in (SPREAD, RING, ALONE, SOUND_3):
            self.refused(task, ("sound", ()), "sound")

    def test_what_is_no_table(self):
        for thing in odd_things() + ["", "<b", ["<b"], list(SPREAD_2), SPREAD_2[::-1], SPREAD_2 + ("bb",), (1,),
                                     ("<b", "<<b"), ("<>",), ("<",), ("<c", "c>"), ("abbab",), (None, "a>"), (Odd(),)]:
            self.refused(SPREAD, ("sound", thing), "sound")

    def test_runs(self):
        self.assertEqual(check_sound(SPREAD_BAD, ("wrong", "ba", ((1, 0),))), "wrong")
        # Longer ones do, with more towers and more moves than any that is found.
        self.assertEqual(check_sound(SPREAD_BAD, ("wrong", "baaa", ((1, 0), (2, 0)))), "wrong")
        self.assertEqual(check_sound(SPREAD_BAD, ("wrong", "b" + "a" * 19, ((1, 0),))), "wrong")
        self.assertEqual(check_sound(LONG_7, ("wrong", "abcdefabcdefa", ())), "wrong")
        self.assertEqual(check_sound(ALONE, ("wrong", "x", THERE_AND_BACK)), "wrong")

    def test_runs_of_1000_moves(self):
        for many in (1, 2, 499):
            self.assertEqual(check_sound(RING, ("wrong", "aa", THERE_AND_BACK * many + ((1, 0),))), "wrong")
        thousand = ((1, 0),) + THERE_AND_BACK * 499 + ((0, 0),)
        self.assertEqual(len(thousand), 1000)
        self.assertEqual(check_sound(RING, ("wrong", "aa", thousand)), "wrong")
        self.refused(RING, ("wrong", "aa", thousand + ((0, 1),)), "wrong")
        self.refused(RING, ("wrong", "aa", ((1, 0),) + THERE_AND_BACK * 700), "wrong")

    def test_runs_that_are_none(self):
        # No start, no move, a move too many, a line that is not bad.
        for line in ("bb", "a", "ab", "", "c", "<ba"):
            self.refused(SPREAD_BAD, ("wrong", line, ()), "wrong")
            self.refused(SPREAD_BAD, ("wrong", line, ((1, 0),)), "wrong")
        for codes in (
            (), ((0, 0),), ((1, 1),), ((1, 0), (1, 0)), ((1, 0), (2, 0)), ((2, 0),), ((-1, 0),), ((True, 0),),
            ((1, False),), ((1,),), ((1, 0, 0),), ([1, 0],), [(1, 0)], (1, 0), None,
        ):
            self.refused(SPREAD_BAD, ("wrong", "ba", codes), "wrong")
        self.refused(SPREAD, ("wrong", "baa", ((1, 0), (2, 0))), "wrong")
        self.refused(RING, ("wrong", "aa", THERE_AND_BACK), "wrong")
        for thing in odd_things() + [(Odd(),), ((Odd(), 0),), ((0, Odd()),)]:
            self.refused(RING, ("wrong", thing, ((0, 0),)), "wrong")
            self.refused(RING, ("wrong", "aa", thing), "wrong")
            self.refused(RING, ("wrong", "aa", ((0, 0), thing)), "wrong")

    def test_other_forms(self):
        table, run = ("sound", SPREAD_2), ("wrong", "ba", ((1, 0),))
        for task in (SPREAD, SPREAD_BAD, NO_STARTS):
            for paper in odd_things() + [
                (), "sound", "wrong", ("sound",), ("wrong",), list(table), list(run), table + ((),), run + ((),),
                run[:2], ("sound",) + run[1:], ("wrong",) + table[1:], ("free",) + table[1:], ("stuck",) + run[1:],
                ("form",) + table[1:], ("Sound",) + table[1:], ("",) + run[1:], (b"sound",) + table[1:],
                (None,) + table[1:], (True,) + run[1:], (("sound",),) + table[1:], (Odd(), ()), (Odd(), "a", ()),
                (["wrong"],) + run[1:], table[::-1], run[::-1], {"sound": SPREAD_2}, (table,), (run,),
            ]:
                self.refused(task, paper, "form")

    def test_there_are_never_both(self):
        for task in SAMPLES:
            paper = sound_paper(task)
            if paper is not None and paper[0] == "wrong":
                for size in (2, 3, 4):
                    self.refused(task, ("sound", table_of(task, size)), "sound")
                    self.refused(task, ("sound", all_windows(task[0], size)), "sound")

    def test_the_task_comes_first(self):
        self.assertRaises(BadTask, check_sound, SPREAD[:4], ("sound", SPREAD_2))
        self.assertRaises(BadTask, check_sound, SPREAD[:4], None)

    def test_what_fits_the_table_is_not_bad(self):
        for task in (SPREAD, SOUND_3, SOUND_4):
            _, table = sound_paper(task)
            for towers in range(1, 7):
                for line in lines_that_come(task, towers):
                    self.assertIs(does_fit(task, table, line), True)
                    self.assertIs(is_bad(task, line), False)


if __name__ == "__main__":
    unittest.main()
