"""Promise [9]: alphabets, what is SEEN, READ BEHIND, TURN, MOVE, WORK."""

import itertools
import random
import unittest

from tests.samples import Odd, odd_things
from towerline.arms import behind, letter_seen, move, need_alphabet, read_behind, seen, work
from towerline.errors import BadAlphabet, OutOfPlace

LETTERS = "0123456789abcdefghijklmnopqrstuvwxyz"


def poses_of(arms):
    """POSES of so many arms of which no two have the same directions SEEN."""
    found = {}
    for pose in itertools.combinations_with_replacement(range(8), arms):
        found.setdefault(tuple(sorted(set(pose))), pose)
    return list(found.values())


ONE = (1, (("a", (0,)), ("b", (3,)), ("c", (5,)), ("d", (6,))))
TWO = (2, (("0", (0, 0)), ("1", (1, 7)), ("a", (1, 2)), ("b", (6, 7)), ("z", (2, 4))))
THREE = (3, (("a", (0, 0, 1)), ("b", (0, 7, 7)), ("c", (1, 4, 6)), ("d", (2, 4, 7)), ("e", (3, 3, 3))))
LEAST = (1, (("a", (7,)), ("b", (0,))))
MOST = (3, tuple(zip(LETTERS, poses_of(3))))
WHOLE_ONE = (1, tuple(zip("abcdefgh", poses_of(1))))
SAMPLES = (ONE, TWO, THREE, LEAST, MOST, WHOLE_ONE)


def drawn_alphabet(draw):
    """An alphabet drawn by a random.Random."""
    arms = draw.randint(1, 3)
    poses = {}
    for _ in range(draw.randint(2, 30)):
        pose = tuple(sorted(draw.randrange(8) for _ in range(arms)))
        poses[frozenset(pose)] = pose
    if len(poses) < 2:
        poses = {1: (0,) * arms, 2: (4,) * arms}
    letters = sorted(draw.sample(LETTERS, len(poses)))
    return (arms, tuple(zip(letters, poses.values())))


def slow_turn(one, other):
    """How many eighths lead from a direction to another one, by going both ways."""
    ways = []
    for step in (1, -1):
        at, many = one, 0
        while at != other:
            at, many = (at + step) % 8, many + 1
        ways.append(many)
    return min(ways)


def slow_move(one, other):
    """The MOVE, by all ways in which arms may go."""
    return min(sum(map(slow_turn, one, order)) for order in itertools.permutations(other))


def slow_behind(alphabet, letter):
    """The LETTER as which one is READ BEHIND, by looking at all."""
    turned = {(8 - direction) % 8 for direction in dict(alphabet[1])[letter]}
    for other, pose in alphabet[1]:
        if set(pose) == turned:
            return other
    return None


class NeedAlphabet(unittest.TestCase):
    def part(self, thing):
        with self.assertRaises(BadAlphabet) as caught:
            need_alphabet(thing)
        return caught.exception.part

    def replaced(self, alphabet, at, place, thing):
        """An alphabet with another thing as the letter, or the pose, of one pair."""
        pair = alphabet[1][at]
        pair = (thing, pair[1]) if place == 0 else (pair[0], thing)
        return (alphabet[0], alphabet[1][:at] + (pair,) + alphabet[1][at + 1:])

    def test_itself(self):
        for alphabet in SAMPLES:
            self.assertIs(need_alphabet(alphabet), alphabet)
            self.assertIs(need_alphabet(thing=alphabet), alphabet)

    def test_form(self):
        for thing in odd_things() + [(), (1,), (1, 2, 3), ONE + (None,), list(ONE), "ab", ONE[1], None]:
            self.assertEqual(self.part(thing), "form")

    def test_arms(self):
        for arms in [0, 4, -1, 10 ** 999, "1", (1,)] + odd_things():
            self.assertEqual(self.part((arms, ONE[1])), "arms")
            self.assertEqual(self.part((arms, None)), "arms")
        self.assertEqual(self.part((True, ONE[1])), "arms")

    def test_signs(self):
        many = tuple((letter, (0,)) for letter in LETTERS) + (("a", (0,)),) * 5
        self.assertEqual(len(many), 41)
        wrong = [(), ONE[1][:1], many, list(ONE[1]), "ab", None, {"a": (0,)}, ONE[1] + (None,), Odd()]
        wrong += [ONE[1] + (pair,) for pair in ((), ("e",), ("e", (1,), 0), ["e", (1,)], "ef", Odd())]
        for signs in wrong:
            self.assertEqual(self.part((1, signs)), "signs")

    def test_there_are_no_more_letters_than_36(self):
        many = MOST[1] + tuple(zip("wxyz", poses_of(3)[36:]))
        self.assertEqual(len(many), 40)
        self.assertEqual(self.part((3, many)), "letter")
        self.assertEqual(self.part((3, many + many[:1])), "signs")
        self.assertEqual(len(MOST[1]), 36)

    def test_letters(self):
        for at in range(4):
            for thing in odd_things() + ["", "aa", "ab", "01", "yz", "A", "{", "`", "/", ":", "\u00e9", "\u00b2", "\u0660", ("a",)]:
                # A number of odd things is no letter; "<" and the like are strings of one sign, too.
                self.assertEqual(self.part(self.replaced(ONE, at, 0, thing)), "letter")
        self.assertEqual(self.part(self.replaced(ONE, 1, 0, "a")), "letter")
        self.assertEqual(self.part(self.replaced(ONE, 3, 0, "c")), "letter")
        self.assertEqual(self.part(self.replaced(ONE, 2, 0, "2")), "letter")
        self.assertEqual(self.part((1, ONE[1][::-1])), "letter")
        self.assertEqual(need_alphabet(self.replaced(ONE, 0, 0, "9"))[1][0][0], "9")

    def test_poses(self):
        for at in range(4):
            for thing in odd_things() + [(), (0, 0), (8,), (-1,), ("0",), (True,), (False,), (0.0,), [0], 0, (None,)]:
                self.assertEqual(self.part(self.replaced(ONE, at, 1, thing)), "pose")
        for thing in [(1, 0), (7, 6), (0, 8), (-1, 0), (0,), (0, 1, 2), (0, True), (False, 1), [0, 1]]:
            self.assertEqual(self.part(self.replaced(TWO, 4, 1, thing)), "pose")
        for thing in [(0, 2, 1), (2, 0, 1), (1, 1, 0), (0, 1), (0, 1, 2, 3), (5, 6, 10 ** 999)]:
            self.assertEqual(self.part(self.replaced(THREE, 0, 1, thing)), "pose")

    def test_same(self):
        self.assertEqual(self.part(self.replaced(ONE, 3, 1, (0,))), "same")
        self.assertEqual(self.part(self.replaced(TWO, 4, 1, (1, 7))), "same")
        self.assertEqual(self.part(self.replaced(THREE, 4, 1, (0, 1, 1))), "same")
        self.assertEqual(self.part(self.replaced(THREE, 4, 1, (0, 0, 1))), "same")
        self.assertEqual(self.part(self.replaced(THREE, 4, 1, (0, 0, 7))), "same")
        self.assertIsNotNone(need_alphabet(self.replaced(THREE, 4, 1, (0, 0, 0))))

    def test_each_part_is_looked_at_through_all_pairs(self):
        pairs = list(THREE[1])
        letter_late = pairs[:4] + [("E", (3, 3, 3))]
        pose_early = [("a", (9, 9, 9))] + pairs[1:]
        same_early = [("a", (3, 3, 3))] + pairs[1:]
        self.assertEqual(self.part((3, tuple(pose_early[:4] + letter_late[4:]))), "letter")
        self.assertEqual(self.part((3, tuple(same_early[:4] + letter_late[4:]))), "letter")
        self.assertEqual(self.part((3, tuple(same_early[:3] + [("d", None)] + pairs[4:]))), "pose")
        self.assertEqual(self.part((3, tuple([("A", None)] + pairs[1:4] + [("e",)]))), "signs")
        self.assertEqual(self.part((4, tuple([("A", None)] + pairs[1:4] + [("e",)]))), "arms")
        self.assertEqual(self.part((4, tuple(pairs), None)), "form")


class Seen(unittest.TestCase):
    def test_seen_and_back(self):
        for alphabet in SAMPLES:
            for letter, pose in alphabet[1]:
                told = seen(alphabet, letter)
                self.assertEqual(told, tuple(sorted(set(pose))))
                self.assertEqual(letter_seen(alphabet, told), letter)
        self.assertEqual(seen(TWO, "0"), (0,))
        self.assertEqual(seen(THREE, "b"), (0, 7))
        self.assertEqual(seen(alphabet=THREE, letter="c"), (1, 4, 6))

    def test_letter_seen_by_all_directions(self):
        for alphabet in SAMPLES:
            letters = {frozenset(pose): letter for letter, pose in alphabet[1]}
            for many in (1, 2, 3):
                for directions in itertools.combinations(range(8), many):
                    self.assertEqual(letter_seen(alphabet, directions), letters.get(frozenset(directions)))

    def test_directions_that_are_none(self):
        wrong = [
            (), (0, 1, 2, 3), (1, 0), (0, 0), (0, 1, 1), (8,), (-1,), (0, 8), ("0",), (True,), (False, 2), (0, True),
            [0], [0, 1], "0", 0, (0.0,), (None,), 7, {0: 1},
        ]
        for thing in wrong:
            self.assertRaises(OutOfPlace, letter_seen, TWO, thing)
        for thing in odd_things():
            # One of these things is three directions that ascend.
            if type(thing) is not tuple or len(thing) != 3:
                self.assertRaises(OutOfPlace, letter_seen, TWO, thing)
        self.assertRaises(OutOfPlace, letter_seen, ONE, (1, 1))
        self.assertIsNone(letter_seen(ONE, (0, 3, 5)))
        self.assertIsNone(letter_seen(ONE, directions=(7,)))

    def test_letters_that_are_none(self):
        for thing in odd_things() + ["", "x", "ab", "abcd", "E", 0, ("a",)]:
            self.assertRaises(OutOfPlace, seen, ONE, thing)
            self.assertRaises(OutOfPlace, behind, ONE, thing)
            self.assertRaises(OutOfPlace, move, ONE, thing, "a")
            self.assertRaises(OutOfPlace, move, ONE, "a", thing)


class Behind(unittest.TestCase):
    def test_behind(self):
        self.assertEqual(behind(ONE, "a"), "a")
        self.assertEqual(behind(ONE, "b"), "c")
        self.assertEqual(behind(ONE, "c"), "b")
        self.assertIsNone(behind(ONE, "d"))
        self.assertEqual(behind(TWO, "1"), "1")
        self.assertEqual(behind(TWO, "a"), "b")
        self.assertIsNone(behind(TWO, "z"))
        # By what is seen: two arms in direction 1 and one in 0 look like one in 7 and two in 0 from behind.
        self.assertEqual(behind(THREE, "a"), "b")
        self.assertEqual(behind(alphabet=THREE, letter="c"), "d")

    def test_drawn(self):
        draw = random.Random(9)
        for _ in range(100):
            alphabet = need_alphabet(drawn_alphabet(draw))
            told = {letter: behind(alphabet, letter) for letter, _ in alphabet[1]}
            for letter, other in told.items():
                self.assertEqual(other, slow_behind(alphabet, letter))
                if other is not None:
                    self.assertEqual(told[other], letter)
            text = "".join(draw.choices(sorted(told), k=draw.randint(0, 6)))
            found = [told[letter] for letter in text]
            self.assertEqual(read_behind(alphabet, text), None if None in found else "".join(found))

    def test_read_behind(self):
        self.assertEqual(read_behind(ONE, ""), "")
        self.assertEqual(read_behind(ONE, "abc"), "acb")
        self.assertEqual(read_behind(alphabet=ONE, text="bbca"), "ccba")
        for text in ("d", "da", "abd", "adb"):
            self.assertIsNone(read_behind(ONE, text))
        self.assertEqual(read_behind(ONE, "b" * 200), "c" * 200)

    def test_texts_that_are_none(self):
        for thing in odd_things() + ["x", "ax", "xa", "axa", "A", "a b", ("a",)]:
            self.assertRaises(OutOfPlace, read_behind, ONE, thing)
            self.assertRaises(OutOfPlace, work, ONE, thing)
        for text in ("a" * 201, "d" * 201):
            self.assertRaises(OutOfPlace, read_behind, ONE, text)
            self.assertRaises(OutOfPlace, work, ONE, text)


class Moves(unittest.TestCase):
    def test_all_turns(self):
        for one, pose in WHOLE_ONE[1]:
            for other, beyond in WHOLE_ONE[1]:
                self.assertEqual(move(WHOLE_ONE, one, other), slow_turn(pose[0], beyond[0]))
        self.assertEqual(move(WHOLE_ONE, "a", "h"), 1)
        self.assertEqual(move(WHOLE_ONE, "a", "e"), 4)
        self.assertEqual(move(WHOLE_ONE, "b", "g"), 3)
        self.assertEqual(move(alphabet=WHOLE_ONE, one="c", other="c"), 0)

    def test_whichever_arm_goes_where(self):
        self.assertEqual(move(TWO, "0", "1"), 2)
        crossed = (2, (("a", (0, 1)), ("b", (0, 7))))
        self.assertEqual(move(crossed, "a", "b"), 2)
        shifted = (3, (("a", (0, 1, 2)), ("b", (0, 1, 7))))
        self.assertEqual(move(shifted, "a", "b"), 3)
        turned = (3, (("a", (0, 3, 6)), ("b", (1, 4, 7))))
        self.assertEqual(move(turned, "a", "b"), 3)

    def test_all_poses(self):
        for arms in (1, 2, 3):
            poses = list(itertools.combinations_with_replacement(range(8), arms))
            draw = random.Random(arms)
            for _ in range(300):
                one, other = draw.choice(poses), draw.choice(poses)
                if set(one) != set(other):
                    alphabet = (arms, (("a", one), ("b", other)))
                    self.assertEqual(move(alphabet, "a", "b"), slow_move(one, other))
                    self.assertEqual(move(alphabet, "b", "a"), slow_move(one, other))

    def test_facts(self):
        letters = [letter for letter, _ in MOST[1]][::3]
        moves = {pair: move(MOST, *pair) for pair in itertools.product(letters, repeat=2)}
        for one, other, third in itertools.product(letters, repeat=3):
            self.assertEqual(moves[one, other], moves[other, one])
            self.assertLessEqual(moves[one, other], moves[one, third] + moves[third, other])
            self.assertEqual(moves[one, one], 0)


class Work(unittest.TestCase):
    def test_work(self):
        for letter in "abcd":
            self.assertEqual(work(ONE, letter), 0)
        self.assertEqual(work(ONE, ""), 0)
        self.assertEqual(work(ONE, "ab"), 3)
        self.assertEqual(work(ONE, "aba"), 6)
        self.assertEqual(work(alphabet=ONE, text="abcd"), 3 + 2 + 1)
        self.assertEqual(work(ONE, "aabb"), 3)

    def test_long_and_drawn(self):
        draw = random.Random(99)
        for alphabet in SAMPLES:
            poses = dict(alphabet[1])
            for many in (2, 3, 10, 200):
                text = "".join(draw.choices(sorted(poses), k=many))
                told = sum(slow_move(poses[one], poses[other]) for one, other in zip(text, text[1:]))
                self.assertEqual(work(alphabet, text), told)
        self.assertEqual(work(WHOLE_ONE, "ae" * 100), 4 * 199)


class AlphabetFirst(unittest.TestCase):
    def test_a_wrong_alphabet_is_told_ahead_of_all_else(self):
        for wrong, part in (((4, ONE[1]), "arms"), ((1, TWO[1]), "pose"), (None, "form"), (Odd(), "form")):
            for call, things in (
                (seen, ("a",)), (seen, (None,)), (letter_seen, ((0,),)), (letter_seen, (None,)), (behind, ("a",)),
                (behind, (None,)), (read_behind, ("",)), (read_behind, (None,)), (move, ("a", "b")),
                (move, (None, None)), (work, ("",)), (work, (None,)),
            ):
                with self.assertRaises(BadAlphabet) as caught:
                    call(wrong, *things)
                self.assertEqual(caught.exception.part, part)


if __name__ == "__main__":
    unittest.main()
