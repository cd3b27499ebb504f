"""Promise [1], and the interface: names, arguments, the order of the checks."""

import copy
import inspect
import unittest

from tests.samples import GREATEST, RING, SPREAD, all_pairs, odd_things
from towerline import always, beats, ranks, rules, runs, stuck, windows
from towerline.errors import BadPaper, BadTask, OutOfPlace, TooGreat

INTERFACE = {
    rules: {
        "need_task": "thing", "is_line": "task value", "moves": "task line", "after": "task line move",
        "is_start": "task line", "is_end": "task line", "is_bad": "task line", "is_stuck": "task line",
        "run_end": "task line codes",
    },
    windows: {
        "windows_of": "size line", "does_fit": "task table line", "alive": "task table", "is_closed": "task table",
        "table_of": "task size", "many_lines": "task table towers",
    },
    runs: {
        "lines_that_come": "task towers", "bad_run": "task towers", "stuck_run": "task towers",
        "most_moves": "task towers", "many_runs": "task towers count",
    },
    always: {"is_sound": "task size", "sound_paper": "task", "check_sound": "task paper"},
    stuck: {"is_free": "task size", "stuck_line": "task size", "free_paper": "task", "check_free": "task paper"},
    ranks: {"lively": "task size", "ranks": "task size", "rank_sum": "task size line"},
    beats: {"beat": "task line", "fate": "task line", "line_at": "task line beats"},
}
PAPER_WORDS = {"check_sound": "sound", "check_free": "free"}
GOOD = {
    "thing": SPREAD, "task": SPREAD, "value": "ba", "line": "ba", "move": (1, 0), "codes": ((1, 0),), "size": 3,
    "table": ("<b", "a>", "ba"), "towers": 3, "count": 2, "beats": 5,
}
WRONG = {
    "line": "", "move": (0, 0), "codes": ((0, 0),), "size": 5, "table": ("ba", "a>"), "towers": 0, "count": 201,
    "beats": -1,
}
BAD_TASK = SPREAD[:2] + (("<>",),) + SPREAD[3:]
SPREAD_TABLE = ("<b", "a>", "aa", "b>", "ba", "bb")
FUNCTIONS = [(module, name, told.split()) for module, names in INTERFACE.items() for name, told in names.items()]


def good(name, word):
    """A right argument of this name for a function."""
    return (PAPER_WORDS[name], SPREAD_TABLE) if word == "paper" else GOOD[word]


class Interface(unittest.TestCase):
    def test_names_and_arguments(self):
        for module, name, told in FUNCTIONS:
            with self.subTest(name):
                function = getattr(module, name)
                self.assertTrue(inspect.isfunction(function))
                self.assertEqual(function.__module__, module.__name__)
                parameters = inspect.signature(function).parameters
                self.assertEqual(list(parameters), told)
                for parameter in parameters.values():
                    self.assertIs(parameter.kind, parameter.POSITIONAL_OR_KEYWORD)
                    self.assertIs(parameter.default, parameter.empty)

    def test_by_position_and_by_name(self):
        for module, name, told in FUNCTIONS:
            function = getattr(module, name)
            by_position = function(*[good(name, word) for word in told])
            self.assertEqual(function(**{word: good(name, word) for word in told}), by_position)
            self.assertEqual(function(**{word: good(name, word) for word in reversed(told)}), by_position)

    def test_equal_calls_return_the_same_and_nothing_is_changed(self):
        before = copy.deepcopy(GOOD)
        for module, name, told in FUNCTIONS:
            function = getattr(module, name)
            first = function(*[good(name, word) for word in told])
            again = function(*[copy.deepcopy(good(name, word)) for word in told])
            self.assertEqual(first, again)
            self.assertIs(type(first), type(again))
        self.assertEqual(GOOD, before)

    def test_kinds_of_results(self):
        kinds = {
            "need_task": tuple, "is_line": bool, "moves": tuple, "after": str, "is_start": bool, "is_end": bool,
            "is_bad": bool, "is_stuck": bool, "run_end": str, "windows_of": tuple, "does_fit": bool, "alive": tuple,
            "is_closed": bool, "table_of": tuple, "many_lines": int, "lines_that_come": tuple,
            "bad_run": type(None), "stuck_run": type(None), "most_moves": int, "many_runs": int,
            "is_sound": bool, "sound_paper": tuple, "check_sound": str, "is_free": bool, "stuck_line": type(None),
            "free_paper": tuple, "check_free": str, "lively": tuple, "ranks": tuple, "rank_sum": int, "beat": str,
            "fate": tuple, "line_at": str,
        }
        for module, name, told in FUNCTIONS:
            self.assertIs(type(getattr(module, name)(*[good(name, word) for word in told])), kinds[name], name)


class Order(unittest.TestCase):
    def test_the_task_is_checked_ahead_of_all_else(self):
        for module, name, told in FUNCTIONS:
            if told[0] != "task":
                continue
            function = getattr(module, name)
            for wrong in (BAD_TASK, *odd_things()):
                with self.subTest(name=name, task=repr(wrong)):
                    with self.assertRaises(BadTask) as caught:
                        function(wrong, *[WRONG.get(word) for word in told[1:]])
                    self.assertEqual(caught.exception.part, "starts" if wrong is BAD_TASK else "form")
                    with self.assertRaises(BadTask):
                        function(wrong, *[good(name, word) for word in told[1:]])

    def test_each_argument_is_refused(self):
        for module, name, told in FUNCTIONS:
            for word in told:
                if word in WRONG:
                    with self.subTest(name=name, word=word):
                        things = {**{other: GOOD[other] for other in told}, word: WRONG[word]}
                        self.assertRaises(OutOfPlace, getattr(module, name), **things)

    def test_each_argument_of_any_kind_is_refused(self):
        for module, name, told in FUNCTIONS:
            for word in told:
                if word in WRONG:
                    for thing in odd_things():
                        # The empty tuple is a table and a run, so no odd thing.
                        with self.subTest(name=name, word=word, thing=repr(thing)):
                            things = {**{other: GOOD[other] for other in told}, word: thing}
                            self.assertRaises(OutOfPlace, getattr(module, name), **things)

    def test_papers_come_last(self):
        for name, call in (("check_sound", always.check_sound), ("check_free", stuck.check_free)):
            for wrong in (None, (), ("form",), (PAPER_WORDS[name], ()), (PAPER_WORDS[name], SPREAD_TABLE)):
                with self.assertRaises(BadTask) as caught:
                    call(BAD_TASK, wrong)
                self.assertEqual(caught.exception.part, "starts")
                self.assertRaises(BadTask, call, paper=wrong, task=BAD_TASK)
            for wrong in (None, (), ("form",), (PAPER_WORDS[name], ())):
                self.assertRaises(BadPaper, call, SPREAD, wrong)

    def test_arguments_are_checked_ahead_of_what_is_too_great(self):
        great = ("abcdef", (("<", "a", ">", "b"),), all_pairs("abcdef"), (), ())
        self.assertRaises(TooGreat, runs.many_runs, great, 8, 1)
        self.assertRaises(OutOfPlace, runs.many_runs, great, 8, 201)
        self.assertRaises(OutOfPlace, runs.many_runs, great, 9, 1)
        self.assertRaises(TooGreat, windows.table_of, great, 4)
        self.assertRaises(OutOfPlace, windows.table_of, great, 5)
        self.assertRaises(BadTask, windows.table_of, great[:4], 5)
        self.assertRaises(TooGreat, ranks.rank_sum, great, 4, "a")
        self.assertRaises(OutOfPlace, ranks.rank_sum, great, 5, "a")
        self.assertRaises(OutOfPlace, ranks.rank_sum, great, 4, "")

    def test_the_texts_of_refusals_go_from_left_to_right(self):
        # The wording is free, but it tells which argument was looked at first.
        def text(call, *things):
            with self.assertRaises(OutOfPlace) as caught:
                call(*things)
            return str(caught.exception)
        self.assertEqual(text(windows.windows_of, 5, ""), text(windows.windows_of, 5, "a"))
        self.assertNotEqual(text(windows.windows_of, 5, ""), text(windows.windows_of, 2, ""))
        self.assertEqual(text(windows.does_fit, RING, "ab", ""), text(windows.does_fit, RING, "ab", "a"))
        self.assertEqual(text(windows.many_lines, RING, "ab", 0), text(windows.many_lines, RING, "ab", 1))
        self.assertEqual(text(runs.many_runs, RING, 9, 201), text(runs.many_runs, RING, 9, 1))
        self.assertEqual(text(rules.after, RING, "", None), text(rules.after, RING, "", (0, 0)))
        self.assertEqual(text(rules.run_end, RING, "", None), text(rules.run_end, RING, "", ()))
        self.assertEqual(text(ranks.rank_sum, RING, 5, ""), text(ranks.rank_sum, RING, 5, "a"))
        self.assertNotEqual(text(ranks.rank_sum, RING, 5, ""), text(ranks.rank_sum, RING, 2, ""))
        for line in ("", "a" * 13):
            self.assertEqual(text(beats.line_at, RING, line, -1), text(beats.line_at, RING, line, 1))
            self.assertNotEqual(text(beats.line_at, RING, line, -1), text(beats.line_at, RING, "a", -1))

    def test_a_refusal_changes_nothing(self):
        for _ in range(2):
            self.assertRaises(OutOfPlace, rules.after, SPREAD, "ba", (0, 0))
            self.assertEqual(rules.moves(SPREAD, "ba"), ((1, 0),))
            self.assertEqual(len(windows.table_of(GREATEST[:2] + (("<a", "a>"), (), ()), 2)), 12)


class Integers(unittest.TestCase):
    def test_true_and_false_are_no_integers(self):
        for thing in (True, False):
            self.assertRaises(OutOfPlace, windows.windows_of, thing, "a")
            self.assertRaises(OutOfPlace, windows.table_of, RING, thing)
            self.assertRaises(OutOfPlace, windows.many_lines, RING, (), thing)
            self.assertRaises(OutOfPlace, runs.lines_that_come, RING, thing)
            self.assertRaises(OutOfPlace, runs.many_runs, RING, 1, thing)
            self.assertRaises(OutOfPlace, always.is_sound, RING, thing)
            self.assertRaises(OutOfPlace, stuck.is_free, RING, thing)
            self.assertRaises(OutOfPlace, ranks.ranks, RING, thing)
            self.assertRaises(OutOfPlace, beats.line_at, RING, "a", thing)
            self.assertRaises(OutOfPlace, rules.after, RING, "ab", (thing, int(thing)))
            self.assertRaises(OutOfPlace, rules.after, RING, "ab", (0, thing))
            self.assertRaises(OutOfPlace, rules.run_end, RING, "aa", ((0, thing),))

    def test_great_integers_are_refused_as_others(self):
        for thing in (10 ** 999, -10 ** 999):
            self.assertRaises(OutOfPlace, windows.windows_of, thing, "a")
            self.assertRaises(OutOfPlace, windows.many_lines, RING, (), thing)
            self.assertRaises(OutOfPlace, runs.most_moves, RING, thing)
            self.assertRaises(OutOfPlace, ranks.lively, RING, thing)
            self.assertRaises(OutOfPlace, beats.line_at, RING, "a", thing)
            self.assertRaises(OutOfPlace, rules.after, RING, "ab", (thing, 0))
            self.assertRaises(OutOfPlace, rules.after, RING, "ab", (0, thing))


if __name__ == "__main__":
    unittest.main()
