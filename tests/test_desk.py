"""Promise [15]: the desk."""

import inspect
import random
import unittest

from tests import books, roads
from tests.samples import odd_things
from towerline.books import least_cost, many_reads, sent, telling
from towerline.clearness import is_clear
from towerline.desk import Desk
from towerline.errors import OutOfPlace
from towerline.fog import least_one, many_sent
from towerline.times import lag, pace, shown, when

# A right line of each kind, and how many words it has.
LINES = {
    "tower 1 2 3": "done", "phrase x y": "done", "bare": "done", "when 0 3": "8", "pace": "3", "lag": "1",
    "shown 2 3": "0", "cost abab": "2", "tell abab": "33", "clear": "clear", "reads 55555": "1", "sent 2 1 2": "3",
    "least ab ba": "3",
}


def desk_of(road=(), book=()):
    """A desk that was told these towers and pairs."""
    desk = Desk()
    for see, hold, answer in road:
        assert desk.say(f"tower {see} {hold} {answer}") == "done"
    for phrase, code in book:
        assert desk.say(f"phrase {phrase} {code}") == "done"
    return desk


class DeskTest(unittest.TestCase):
    def refused(self, desk, line):
        """Whether a line is answered with "no" and changes nothing."""
        before = (desk.road, desk.book)
        self.assertEqual(desk.say(line), "no", repr(line))
        self.assertEqual((desk.road, desk.book), before)


class Interface(DeskTest):
    def test_what_is_defined_in_the_class_itself(self):
        self.assertEqual(str(inspect.signature(Desk)), "()")
        self.assertEqual(str(inspect.signature(vars(Desk)["say"])), "(self, line)")
        for name in ("road", "book"):
            self.assertIsInstance(vars(Desk)[name], property)
            self.assertRaises(AttributeError, setattr, Desk(), name, ())
        self.assertEqual(Desk.__module__, "towerline.desk")

    def test_a_new_desk(self):
        desk = Desk()
        self.assertEqual((desk.road, desk.book), ((), ()))

    def test_what_is_no_string(self):
        desk = desk_of(roads.PLAIN, books.PLAIN)
        for thing in [thing for thing in odd_things() if not isinstance(thing, str)] + [("pace",), ["pace"], b"pace"]:
            self.assertRaises(OutOfPlace, desk.say, thing)
        self.assertEqual((desk.road, desk.book), (roads.PLAIN, books.PLAIN))

    def test_strings_that_are_no_lines(self):
        for desk in (Desk(), desk_of(roads.PLAIN, books.PLAIN)):
            for line in [thing for thing in odd_things() if isinstance(thing, str)] + [
                "", " ", "\n", "Pace", "PACE", "paces", "pac", "when", "help", "road", "book", "done", "no", "tower",
                "say pace", "__init__", "W", "NN", "\u00e9", "pace\npace", "\ud800", "x" * 19000, " " * 19000,
            ]:
                self.refused(desk, line)


class Lines(DeskTest):
    def setUp(self):
        self.desk = desk_of(roads.PLAIN, books.PLAIN)

    def test_each_line(self):
        for line, answer in LINES.items():
            desk = desk_of(roads.PLAIN, books.PLAIN)
            self.assertEqual(desk.say(line), answer)
            self.assertEqual(desk_of(roads.PLAIN, books.PLAIN).say(line=line), answer)

    def test_words_and_blanks(self):
        for line in LINES:
            words = line.split(" ")
            for at in range(len(words)):
                self.refused(self.desk, " ".join(words[:at] + words[at + 1:]))
                self.refused(self.desk, " ".join(words[:at] + [""] + words[at:]))
            for wrong in (
                line + " 1", line + " a", line + " ", " " + line, line + "\n", "\n" + line, line + "\t", line.upper(),
                line.replace(" ", "  "), line.replace(" ", "\t"), line.replace(" ", "\n"), line + " " + line,
                line.replace(" ", "\u00a0"),
            ):
                if wrong != line:
                    self.refused(self.desk, wrong)

    def test_no_word_is_empty(self):
        for line in LINES:
            words = line.split(" ")
            for at in range(1, len(words)):
                self.refused(self.desk, " ".join(words[:at] + [""] + words[at + 1:]))
        # The empty text, and the empty row, are none that the desk is asked about.
        for line in ("cost ", "tell ", "reads ", "least  ", "least a ", "least  a", "phrase  ", "sent   "):
            self.refused(self.desk, line)

    def test_how_integers_are_written(self):
        for line in ("tower 1 2 3", "when 0 3", "shown 2 3", "sent 2 1 2"):
            words = line.split(" ")
            for at in range(1, len(words)):
                for word in (
                    "0" + words[at], "00", "+1", "-1", "-0", "1.0", "1_0", "a", "\u0661", "\u00b2", "0x1", "1e1",
                    "1" * 32, "9" * 4400, "0" * 31, "(1)", "None", "True",
                ):
                    self.refused(self.desk, " ".join(words[:at] + [word] + words[at + 1:]))

    def test_31_figures(self):
        self.assertEqual(self.desk.say("when 0 1" + "0" * 30), str(when(roads.PLAIN, 0, 10 ** 30)))
        self.assertEqual(self.desk.say("shown 0 1" + "0" * 30), str(shown(roads.PLAIN, 0, 10 ** 30)))
        self.refused(self.desk, "when 0 1" + "0" * 29 + "1")
        self.refused(self.desk, "shown 0 1" + "0" * 29 + "1")
        self.refused(self.desk, "when 0 1" + "0" * 31)
        self.refused(self.desk, "when 1" + "0" * 30 + " 0")

    def test_signs_that_are_none(self):
        for line in ("phrase x y", "cost abab", "tell abab", "reads 55555", "least ab ba"):
            words = line.split(" ")
            for at in range(1, len(words)):
                for sign in "AZ-_.,/:`{~\u00e9\u00b2\u0661\n\t":
                    for word in (sign, words[at] + sign, sign + words[at]):
                        self.refused(self.desk, " ".join(words[:at] + [word] + words[at + 1:]))


class Towers(DeskTest):
    def test_towers(self):
        desk = Desk()
        for number, (see, hold, answer) in enumerate(roads.LATE):
            self.assertEqual(desk.say(f"tower {see} {hold} {answer}"), "done")
            self.assertEqual(desk.road, roads.LATE[:number + 1])
        self.assertEqual(desk.book, ())
        self.assertEqual(desk.say("tower 1000 1000 1000"), "done")
        for line in ("tower 0 0 0", "tower 1001 1 0", "tower 0 1001 0", "tower 0 1 1001", "tower 0 1 1" + "0" * 30):
            self.refused(desk, line)

    def test_a_41st_tower(self):
        desk = desk_of(roads.MOST)
        self.assertEqual(len(desk.road), 40)
        self.refused(desk, "tower 0 1 0")
        self.assertEqual(desk.say("when 39 0"), "39000")
        self.refused(desk, "when 40 0")

    def test_what_wants_a_tower(self):
        desk = desk_of((), books.PLAIN)
        for line in ("when 0 0", "pace", "lag", "shown 0 0"):
            self.refused(desk, line)
        desk.say("tower 0 1 0")
        self.assertEqual([desk.say(line) for line in ("when 0 0", "pace", "lag", "shown 0 0")], ["0", "1", "0", "0"])

    def test_times(self):
        draw = random.Random(21)
        for road in roads.ROADS + tuple(roads.drawn_road(draw) for _ in range(10)):
            desk = desk_of(road)
            self.assertEqual(desk.say("pace"), str(pace(road)))
            self.assertEqual(desk.say("lag"), str(lag(road)))
            for tower in range(len(road)):
                for number in (0, 1, 5, 100):
                    self.assertEqual(desk.say(f"when {tower} {number}"), str(when(road, tower, number)))
                    told = shown(road, tower, number)
                    self.assertEqual(desk.say(f"shown {tower} {number}"), "none" if told is None else str(told))
            self.refused(desk, f"when {len(road)} 0")
            self.refused(desk, f"shown {len(road)} 0")
        self.assertEqual(desk_of(roads.PLAIN).say("shown 2 2"), "none")
        self.assertEqual(desk_of(roads.PLAIN).say("shown 2 3"), "0")


class Phrases(DeskTest):
    def test_phrases(self):
        desk = Desk()
        for number, (phrase, code) in enumerate(books.PLAIN):
            self.assertEqual(desk.say(f"phrase {phrase} {code}"), "done")
            self.assertEqual(desk.book, books.PLAIN[:number + 1])
        self.assertEqual(desk.road, ())
        for phrase, code in books.PLAIN:
            self.refused(desk, f"phrase {phrase} zz")
            self.refused(desk, f"phrase zz {code}")
        for line in ("phrase zzzzzzzzz q", "phrase z qqqqqq", "phrase z", "phrase z q q"):
            self.refused(desk, line)
        self.assertEqual(desk.say("phrase zzzzzzzz qqqqq"), "done")

    def test_a_41st_pair(self):
        desk = desk_of((), books.MOST)
        self.assertEqual(len(desk.book), 40)
        self.refused(desk, "phrase x y")
        self.assertEqual(desk.say("cost 00000039"), "5")

    def test_what_wants_a_pair(self):
        desk = desk_of(roads.PLAIN)
        for line in ("cost a", "tell a", "clear", "reads a"):
            self.refused(desk, line)
        desk.say("phrase a b")
        self.assertEqual([desk.say(line) for line in ("cost a", "tell a", "clear", "reads b")], ["1", "b", "clear", "1"])

    def test_answers(self):
        for book in books.BOOKS + tuple(books.drawn_books(22, 10)):
            desk = desk_of((), book)
            self.assertEqual(desk.say("clear"), "clear" if is_clear(book) else "two")
            for text in ("a", "ab", "abab", "01", "0101", "qqqqqq", "xyxy", "noone", "0", "1" * 200):
                cost = least_cost(book, text)
                numbers = telling(book, text)
                self.assertEqual(desk.say(f"cost {text}"), "none" if cost is None else str(cost))
                self.assertEqual(desk.say(f"tell {text}"), "none" if numbers is None else sent(book, numbers))
                self.assertEqual(desk.say(f"reads {text}"), str(many_reads(book, text)))
            for word in ("cost", "tell", "reads"):
                self.refused(desk, f"{word} {'1' * 201}")
        self.assertEqual(desk_of((), books.TWO).say("reads " + "01" * 100), str(2 ** 100))
        self.assertEqual(desk_of((), books.TWO).say("clear"), "two")
        self.assertEqual(desk_of((), books.PLAIN).say("cost c"), "none")
        self.assertEqual(desk_of((), books.PLAIN).say("tell c"), "none")
        self.assertEqual(desk_of((), books.PLAIN).say("reads c"), "0")


class Others(DeskTest):
    def test_fog_wants_neither_towers_nor_pairs(self):
        for desk in (Desk(), desk_of(roads.PLAIN, books.PLAIN)):
            self.assertEqual(desk.say("sent 40 0 300"), str(40 ** 300))
            self.assertEqual(desk.say("sent 1 1 0"), "0")
            self.assertEqual(desk.say("sent 26 3 5"), str(many_sent(26, 3, 5)))
            self.assertEqual(desk.say("least abcbdab bdcaba"), str(least_one("abcbdab", "bdcaba")))
            self.assertEqual(desk.say("least " + "a" * 60 + " " + "b" * 60), "120")
            for line in (
                "sent 0 1 1", "sent 41 1 1", "sent 1 301 1", "sent 1 1 301", "least a", "least a b c",
                "least " + "a" * 61 + " b", "least b " + "a" * 61,
            ):
                self.refused(desk, line)

    def test_bare(self):
        desk = desk_of(roads.PLAIN, books.PLAIN)
        self.assertEqual(desk.say("bare"), "done")
        self.assertEqual((desk.road, desk.book), ((), ()))
        self.assertEqual(desk.say("bare"), "done")
        for line in ("pace", "clear", "bare 1", "bare "):
            self.refused(desk, line)
        self.assertEqual(desk.say("tower 5 6 7"), "done")
        self.assertEqual(desk.say("phrase a 1"), "done")
        self.assertEqual((desk.road, desk.book), (((5, 6, 7),), (("a", "1"),)))

    def test_two_desks(self):
        one, other = Desk(), Desk()
        one.say("tower 1 2 3")
        self.assertEqual((one.road, other.road), (((1, 2, 3),), ()))

    def test_later_lines_do_not_change_what_was_told(self):
        desk = desk_of(roads.PLAIN, books.PLAIN)
        told = (desk.road, desk.book)
        desk.say("tower 1 2 3")
        desk.say("bare")
        self.assertEqual(told, (roads.PLAIN, books.PLAIN))

    def test_asking_changes_nothing(self):
        desk = desk_of(roads.PLAIN, books.PLAIN)
        for _ in range(2):
            for line, answer in LINES.items():
                if answer != "done":
                    self.assertEqual(desk.say(line), answer)
        self.assertEqual((desk.road, desk.book), (roads.PLAIN, books.PLAIN))

    def test_any_string_is_answered(self):
        draw = random.Random(23)
        desk = desk_of(roads.PLAIN, books.TWO)
        answers = {}
        for _ in range(6000):
            signs = list(draw.choice(list(LINES)))
            for _ in range(draw.randint(0, 3)):
                at = draw.randrange(len(signs) + 1)
                signs[at:at + draw.randint(0, 1)] = draw.choice(" \n01aZ-.\t\u0661\u00b2") * draw.randint(0, 2)
            before = (desk.road, desk.book)
            answer = desk.say("".join(signs))
            self.assertIs(type(answer), str)
            self.assertNotEqual(answer, "")
            if answer != "done":
                self.assertEqual((desk.road, desk.book), before)
            answers[answer] = True
        self.assertLessEqual({"no", "done", "none", "0"}, set(answers))


if __name__ == "__main__":
    unittest.main()
