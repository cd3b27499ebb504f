"""Promise [2]: what is a TASK, and which part of another thing is told."""

import unittest

from tests.samples import ALONE, EDGES, GREATEST, LEAST, RING, SAMPLES, SPREAD, all_pairs, odd_things, replaced
from towerline.errors import BadTask
from towerline.rules import need_task

PARTS = ("signs", "rules", "starts", "bad", "ends")
RULE = ("<ab", "a", ">ab", "b")


class Tasks(unittest.TestCase):
    def refused(self, part, thing):
        with self.assertRaises(BadTask) as caught:
            need_task(thing)
        self.assertEqual(caught.exception.part, part)

    def part_refused(self, part, things, task=SPREAD):
        for thing in things:
            with self.subTest(part=part, thing=repr(thing)):
                self.refused(part, replaced(task, PARTS.index(part), thing))

    def part_taken(self, part, things, task=SPREAD):
        for thing in things:
            with self.subTest(part=part, thing=thing):
                whole = replaced(task, PARTS.index(part), thing)
                self.assertIs(need_task(whole), whole)

    def test_tasks_are_returned_themselves(self):
        for task in SAMPLES + (LEAST, GREATEST):
            self.assertIs(need_task(task), task)
            self.assertIs(need_task(thing=task), task)

    def test_form(self):
        for thing in odd_things() + [(), SPREAD[:4], SPREAD + ((),), list(SPREAD), "abcde", 5, (SPREAD,)]:
            with self.subTest(repr(thing)):
                self.refused("form", thing)

    def test_signs_taken(self):
        for signs in ("az", "abc", "abcdef", "uvwxyz", "bdfhjl"):
            task = (signs, (("<", signs[0], ">", signs[1]),), (), (), ())
            self.assertIs(need_task(task), task)

    def test_signs_refused(self):
        self.part_refused("signs", odd_things() + [
            "", "a", "abcdefg", "ba", "aa", "aab", "abb", "acb", "Ab", "a<", "<a", "ab>", "a-", "1a", "ab ", "a\u00e4",
            ("a", "b"), ["a", "b"], b"ab", 12,
        ])

    def test_rules_taken(self):
        self.part_taken("rules", [
            (RULE,), (RULE, RULE), (RULE,) * 24, (("<", "a", ">", "b"),), (("a", "b", "b", "a"),),
            (("ab", "b", ">b", "a"), ("<b", "a", "ab", "b")),
        ])

    def test_rules_refused(self):
        self.part_refused("rules", odd_things() + [(), (RULE,) * 25, [RULE], RULE, (list(RULE),), "rule", 1])
        wrong = [
            RULE[:3], RULE + ("a",), (), None, "abab", list(RULE),
            ("<ab", "a", ">ab", "a"), ("<ab", "b", ">ab", "b"),
        ]
        self.part_refused("rules", [(rule,) for rule in wrong])
        self.part_refused("rules", [(RULE, rule) for rule in wrong])

    def test_lefts_and_rights_refused(self):
        for thing in ["", ">", "c", "ac", "ba", "b<", "aa", "<<", "<a>", "a>", ("a",), ["a"], b"a", 1, True, None]:
            self.part_refused("rules", [((thing, "a", ">ab", "b"),)])
        for thing in ["", "<", "c", "ac", "ba", "b>", "aa", ">>", "<a", "<a>", ("a",), ["a"], b"a", 1, True, None]:
            self.part_refused("rules", [(("<ab", "a", thing, "b"),)])

    def test_owns_and_news_refused(self):
        for thing in ["", "<", ">", "c", "ab", "ba", "aa", ("a",), ["a"], b"a", 1, True, None]:
            self.part_refused("rules", [(("<ab", thing, ">ab", "b"),), (("<ab", thing, ">ab", "a"),)])
            self.part_refused("rules", [(("<ab", "a", ">ab", thing),), (("<ab", "b", ">ab", thing),)])

    def test_pairs_taken(self):
        for part in ("starts", "ends"):
            self.part_taken(part, [(), ("<a",), ("a>",), ("aa",), ("<b", "ab"), all_pairs("ab"), ("ab", "ba")])

    def test_pairs_refused(self):
        for part in ("starts", "ends"):
            self.part_refused(part, [thing for thing in odd_things() if thing is not None] + [
                None, "ab", ["ab"], ("<>",), ("<",), ("a",), ("",), ("aaa",), ("<aa",), ("<a>",), ("ac",), ("ca",),
                ("a<",), (">a",), ("<<",), (">>",), ("ba", "ab"), ("ab", "ab"), ("a>", "<a"), (b"ab",), (1,), (True,),
                (("a", "b"),), (["a", "b"],), ("ab", None), (None, "ab"), ("ab", "ba", "ba"), ("aa", "ba", "ab"),
                ("<a", "<>"), ("c>",), ("<c",),
            ])

    def test_bad_taken(self):
        twelve = ("<a", "<a>", "<aa", "<ab", "<b", "<b>", "<ba", "a", "a>", "aa", "aa>", "aaa")
        self.part_taken("bad", [
            (), ("a",), ("<a",), ("a>",), ("<a>",), ("<ab",), ("ab>",), ("aba",), ("ab", "b"), ("a", "aa"), twelve,
        ])

    def test_bad_refused(self):
        thirteen = ("<a", "<a>", "<aa", "<ab", "<b", "<b>", "<ba", "a", "a>", "aa", "aa>", "aaa", "aab")
        self.part_refused("bad", odd_things() + [
            "ab", ["ab"], ("",), ("<",), (">",), ("<>",), ("<<",), (">>",), ("<<a",), ("a>>",), (">a",), ("a<",),
            ("a<b",), ("a>b",), ("aaaa",), ("<aa>",), ("<aaa",), ("c",), ("abc",), ("b", "ab"), ("ab", "ab"),
            (b"ab",), (1,), (True,), (("a",),), (["a"],), ("ab", None), (None, "ab"), thirteen, ("aa", "a"),
            (">a>",), ("<a<",),
        ])

    def test_the_first_wrong_part_is_told(self):
        wrong = ("a", (), ("<>",), ("<>",), ("<>",))
        for first in range(5):
            for second in range(first, 5):
                task = replaced(replaced(SPREAD, second, wrong[second]), first, wrong[first])
                self.refused(PARTS[first], task)
        self.refused("signs", wrong)
        self.refused("form", wrong[:4])
        self.refused("form", wrong + (None,))

    def test_parts_want_the_signs_of_their_task(self):
        self.refused("rules", ("cd",) + SPREAD[1:])
        self.refused("starts", ("ab", RING[1], EDGES[2][:1] + ("cc",), (), ()))
        self.refused("bad", ("ab", RING[1], (), ("xyz",), ()))
        self.refused("ends", ("ab", RING[1], (), (), ALONE[4]))

    def test_greatest_tasks_are_as_great_as_may_be(self):
        signs, rules, starts, bad, ends = GREATEST
        self.assertEqual((len(signs), len(rules), len(starts), len(bad), len(ends)), (6, 24, 48, 12, 48))


if __name__ == "__main__":
    unittest.main()
