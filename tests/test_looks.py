"""Promises [1], [2], [4]: the looks with which calls begin, at things that are otherwise at one place, and their time."""

import time
import unittest

from tests.samples import (
    ALONE, EDGES, GREATEST, SPREAD, Odd, all_pairs, all_windows, lines_up_to, replaced, slow_after, slow_alive,
    slow_is_closed, slow_moves, slow_table, slow_windows,
)
from towerline.errors import BadTask, OutOfPlace
from towerline.rules import is_line, moves, need_task
from towerline.windows import alive, does_fit, is_closed, many_lines, table_of

PARTS = ("signs", "rules", "starts", "bad", "ends")
OTHER_SIGNS = ("<", ">", "<>", "x", "A", " ", "\n", "`", "{", "\u00e4", "\ud800", "", "-")
OTHER_THINGS = (None, True, 0, 1.5, b"ab", (), ("a", "b"), ["a", "b"], {"a": 1}, Odd())

# Three signs with all pairs as STARTS: all lines of up to four towers have 174 windows of size 4.
ROUND_TASK = (
    "abc",
    (("<ab", "a", ">bc", "b"), ("abc", "b", ">abc", "c"), ("<a", "c", "ab", "a"), ("c", "a", "c", "b"),
     ("<abc", "b", "a", "c")),
    all_pairs("abc"), ("<ab", "cc"), all_pairs("abc")[:7],
)


def otherwise(text, signs):
    """Strings, and things of other kinds, that are like a string but for one place."""
    found = [text + text, text[::-1], text[:1] * len(text), text[-1:] * len(text)]
    for sign in OTHER_SIGNS + tuple(signs):
        for at in range(len(text) + 1):
            found.append(text[:at] + sign + text[at:])
            found.append(text[:at] + sign + text[at + 1:])
    return list(dict.fromkeys(found)) + list(OTHER_THINGS)


def is_rising(row):
    return all(one < other for one, other in zip(row, row[1:]))


def slow_is_table(signs, thing):
    """Whether a thing is a TABLE, straight by the words of the document."""
    if type(thing) is not tuple or not all(type(item) is str for item in thing):
        return False
    for size in (2, 3, 4):
        if set(thing) <= set(all_windows(signs, size)):
            return is_rising(thing)
    return False


def slow_part(task):
    """The first wrong part of a tuple of five things, or None, straight by the words of the document."""
    signs, rules, starts, bad, ends = task

    def some(thing, more):
        return type(thing) is str and thing != "" and set(thing) <= set(signs) | {more} and is_rising(thing)

    def right_rule(rule):
        return (
            type(rule) is tuple and len(rule) == 4 and some(rule[0], "<") and some(rule[2], ">")
            and all(type(one) is str and one in tuple(signs) for one in rule[1::2]) and rule[1] != rule[3]
        )

    def right_pairs(pairs):
        return (
            type(pairs) is tuple and all(type(pair) is str and pair in all_pairs(signs) for pair in pairs)
            and is_rising(pairs)
        )

    def right_bad(words):
        if type(words) is not tuple or len(words) > 12 or not all(type(word) is str for word in words):
            return False
        told = {word.strip("<>") for size in (2, 3) for word in all_windows(signs, size)}
        told |= {word for size in (2, 3) for word in all_windows(signs, size) if "<<" not in word and ">>" not in word}
        return set(words) <= told and is_rising(words)

    letters = "abcdefghijklmnopqrstuvwxyz"
    if type(signs) is not str or not 2 <= len(signs) <= 6 or not set(signs) <= set(letters) or not is_rising(signs):
        return "signs"
    if type(rules) is not tuple or not 1 <= len(rules) <= 24 or not all(right_rule(rule) for rule in rules):
        return "rules"
    if not right_pairs(starts):
        return "starts"
    if not right_bad(bad):
        return "bad"
    return None if right_pairs(ends) else "ends"


class Tasks(unittest.TestCase):
    def looked_at(self, task):
        part = slow_part(task)
        try:
            self.assertIs(need_task(task), task)
            told = None
        except BadTask as error:
            told = error.part
        if told != part:
            self.fail(f"{told} is told, not {part}, of {task!r}")
        return told

    def test_signs_otherwise(self):
        told = [
            self.looked_at(replaced(task, 0, signs))
            for task in (SPREAD, EDGES, GREATEST) for signs in otherwise(task[0], "abcdz")
        ]
        self.assertLessEqual({"signs", "rules", None}, set(told))

    def test_rules_otherwise(self):
        told = []
        for task in (SPREAD, EDGES, ROUND_TASK, GREATEST):
            for at, rule in enumerate(task[1]):
                if at > 5:
                    break
                for part in range(4):
                    for thing in otherwise(rule[part], task[0]):
                        other = rule[:part] + (thing,) + rule[part + 1:]
                        rules = task[1][:at] + (other,) + task[1][at + 1:]
                        told.append(self.looked_at(replaced(task, 1, rules)))
        self.assertEqual({"rules", None}, set(told))

    def test_pairs_and_bad_strings_otherwise(self):
        for task in (SPREAD, EDGES, ALONE, ROUND_TASK):
            for part in (2, 3, 4):
                told = []
                for at, word in enumerate(task[part]):
                    for thing in otherwise(word, task[0]):
                        words = task[part][:at] + (thing,) + task[part][at + 1:]
                        told.append(self.looked_at(replaced(task, part, words)))
                        if type(thing) is str:
                            more = tuple(sorted(set(task[part] + (thing,))))
                            told.append(self.looked_at(replaced(task, part, more)))
                self.assertLessEqual(set(told), {PARTS[part], None})
                self.assertIn(PARTS[part], told)

    def test_equal_and_turned_neighbours(self):
        for part in (2, 3, 4):
            words = GREATEST[part]
            for at in range(len(words) - 1):
                turned = words[:at] + words[at:at + 2][::-1] + words[at + 2:]
                equal = words[:at] + words[at:at + 1] * 2 + words[at + 2:]
                for other in (turned, equal):
                    self.assertEqual(self.looked_at(replaced(GREATEST, part, other)), PARTS[part])

    def test_parts_of_other_kinds(self):
        for part in range(5):
            for thing in OTHER_THINGS[:-1] + ("", "ba", ("",), (None,), ("ba", "ab")):
                if part > 1 and thing == () or part == 3 and thing == ("a", "b"):
                    continue
                with self.assertRaises(BadTask) as caught:
                    need_task(replaced(SPREAD, part, thing))
                self.assertEqual(caught.exception.part, PARTS[part])


class Tables(unittest.TestCase):
    def looked_at(self, task, table):
        right = slow_is_table(task[0], table)
        calls = (
            lambda: does_fit(task, table, task[0]), lambda: alive(task, table), lambda: is_closed(task, table),
            lambda: many_lines(task, table, 3),
        )
        for call in calls:
            try:
                call()
                told = True
            except OutOfPlace:
                told = False
            if told is not right:
                self.fail(f"{told} is told of {table!r}")
        return right

    def test_one_window_otherwise(self):
        told = []
        for task, size in ((SPREAD, 2), (SPREAD, 3), (EDGES, 2), (EDGES, 4), (GREATEST, 2)):
            whole = all_windows(task[0], size)
            step = max(len(whole) // 8, 1)
            for at in range(0, len(whole), step):
                for thing in otherwise(whole[at], task[0]):
                    # Alone, at its place, and where it would stand in a table.
                    told.append(self.looked_at(task, (thing,)))
                    told.append(self.looked_at(task, whole[:at] + (thing,) + whole[at + 1:]))
                    if type(thing) is str:
                        less = {one for one in whole if one != whole[at]}
                        told.append(self.looked_at(task, tuple(sorted(less | {thing}))))
        self.assertIn(True, told)
        self.assertIn(False, told)

    def test_each_place_of_a_great_table(self):
        whole = all_windows("abc", 4)
        self.assertEqual(len(whole), 174)
        for at, window in enumerate(whole):
            less = whole[:at] + whole[at + 1:]
            self.assertIs(self.looked_at(ROUND_TASK, less), True)
            for thing in (
                window[:-1], window + ">", "<" + window, "x" + window[1:], window[:-1] + "x", window[0] + "x" + window[2:],
                window[0] + "<" + window[2:], window[:2] + ">" + window[3:], ">" + window[1:], window[:-1] + "<", "", None,
                window[0] * 4, list(window),
            ):
                table = whole[:at] + (thing,) + whole[at + 1:]
                right = slow_is_table("abc", table)
                try:
                    does_fit(ROUND_TASK, table, "abc")
                    told = True
                except OutOfPlace:
                    told = False
                self.assertIs(told, right, (at, thing))
            if at:
                for two in ((window, whole[at - 1]), (window, window), (whole[at - 1],) * 2):
                    self.assertRaises(OutOfPlace, does_fit, ROUND_TASK, whole[:at - 1] + two + whole[at + 1:], "a")

    def test_windows_of_two_sizes(self):
        for small, great in ((2, 3), (3, 4), (2, 4)):
            for one in all_windows("ab", small):
                for other in all_windows("ab", great):
                    for table in ((one, other), (other, one)):
                        self.assertIs(self.looked_at(SPREAD, table), False)

    def test_windows_of_no_size(self):
        for table in (
            ("a",), ("a", "b"), ("",), ("<", ">"), ("<a>bb",), ("aabba", "abbaa"), ("<<<<a",), ("<<", "<a", "a>"),
            ("<a", ">>", "a>"), ("<a", ">a", "a>"), ("<>", "<a"), ("<<<", "<<a"), ("<<>", "<<a"), ("<<<a", "<<>>"),
        ):
            self.assertIs(self.looked_at(SPREAD, table), False)


class Lines(unittest.TestCase):
    def test_lines_otherwise(self):
        for line in ("a", "ab", "abba", "b" * 9):
            for thing in otherwise(line, "ab"):
                right = type(thing) is str and thing != "" and set(thing) <= {"a", "b"}
                self.assertIs(is_line(SPREAD, thing), right)
                if right:
                    self.assertEqual(moves(SPREAD, thing), slow_moves(SPREAD, thing))
                else:
                    self.assertRaises(OutOfPlace, does_fit, SPREAD, (), thing)
                    self.assertRaises(OutOfPlace, moves, SPREAD, thing)


class Rounds(unittest.TestCase):
    def tables(self):
        """The table of the task, and four others like it."""
        whole = table_of(ROUND_TASK, 4)
        return (whole, whole[1:], whole[:-1], whole[:87] + whole[88:], whole[:30] + whole[32:])

    def lines(self):
        """All lines of one to four towers, and the line behind each move."""
        found = lines_up_to("abc", 4)
        return found + [slow_after(ROUND_TASK, line, move) for line in found for move in slow_moves(ROUND_TASK, line)]

    def test_answers(self):
        tables = self.tables()
        short = lines_up_to("abc", 6)
        self.assertEqual(tables[0], all_windows("abc", 4))
        self.assertEqual(tables[0], slow_table(ROUND_TASK, 4, lines_up_to("abc", 4)))
        for table in tables:
            self.assertIs(is_closed(ROUND_TASK, table), slow_is_closed(ROUND_TASK, 4, table, short))
            self.assertEqual(set(alive(ROUND_TASK, table)), set(slow_alive(table, short)))
            for line in self.lines():
                self.assertIs(does_fit(ROUND_TASK, table, line), slow_windows(4, line) <= set(table))

    def test_time(self):
        tables, lines = self.tables(), self.lines()
        self.assertEqual(len(lines), 120 + 264)
        began = time.perf_counter()
        for _ in range(100):
            table_of(ROUND_TASK, 4)
            for table in tables:
                is_closed(ROUND_TASK, table)
            for line in lines:
                does_fit(ROUND_TASK, tables[0], line)
        took = time.perf_counter() - began
        # Here it takes some 2 seconds; it took 8. On a slow machine all takes longer: so does this sum.
        began = time.perf_counter()
        sum([at % 7 for at in range(10 ** 6)])
        unit = time.perf_counter() - began
        self.assertLess(took, max(5, 60 * unit))

    def test_time_of_tasks(self):
        wrong = [replaced(ROUND_TASK, part, thing) for part in range(5) for thing in (None, "ba", ("ba", "ab"))]
        began = time.perf_counter()
        for _ in range(1000):
            need_task(ROUND_TASK)
            for task in wrong:
                try:
                    need_task(task)
                except BadTask:
                    pass
        self.assertLess(time.perf_counter() - began, 2)


if __name__ == "__main__":
    unittest.main()
