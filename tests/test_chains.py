"""Promise [14]: live chains, their deeds, trials and copies."""

import inspect
import random
import unittest

from tests.roads import ALONE, FLAT, LATE, LEAST, MOST, PLAIN, ROADS, drawn_road
from tests.samples import Odd, odd_things
from towerline import chains
from towerline.chains import Chain, under
from towerline.errors import BadRoad, Nothing, OutOfPlace
from towerline.times import shown, when


class SlowChain:
    """A chain by the words of the document: all is found anew from its road and its deeds."""

    def __init__(self, road, deeds=()):
        self.road = road
        self.deeds = list(deeds)

    def do(self, chain, deed):
        """Do a deed here, and at a chain; returns what the chain returned."""
        self.deeds.append(deed)
        return chain.give(deed) if isinstance(deed, str) else chain(deed)

    @property
    def given(self):
        now, found = 0, []
        for deed in self.deeds:
            if isinstance(deed, str):
                found.append((deed, now))
            else:
                now += deed
        return found

    @property
    def moment(self):
        return sum(deed for deed in self.deeds if isinstance(deed, int))

    def times(self):
        """T(I, J) by signs, by the four terms and the moments at which signs were given."""
        found = []
        for sign, (_, moment) in enumerate(self.given):
            row = []
            for tower, (see, hold, answer) in enumerate(self.road):
                terms = [0] + ([moment] if tower == 0 else [row[tower - 1] + see])
                if sign > 0:
                    terms.append(found[sign - 1][tower] + hold)
                    if tower + 1 < len(self.road):
                        terms.append(found[sign - 1][tower + 1] + answer)
                row.append(max(terms))
            found.append(row)
        return found

    def shown_by(self, tower):
        """The signs that a tower has shown so far."""
        return [
            letter for (letter, _), row in zip(self.given, self.times()) if row[tower] <= self.moment
        ]


class ChainTest(unittest.TestCase):
    def same(self, chain, slow):
        """Compare all that a chain tells with the words of the document."""
        self.assertEqual(chain.road, slow.road)
        self.assertEqual(chain.moment, slow.moment)
        self.assertEqual(chain.given, tuple(slow.given))
        self.assertEqual(len(chain), len(slow.given))
        towers = range(len(slow.road))
        self.assertEqual(chain.showing, tuple((slow.shown_by(tower) or [None])[-1] for tower in towers))
        self.assertEqual(chain.arrived, tuple(slow.shown_by(towers[-1])))
        for number, row in enumerate(slow.times()):
            self.assertEqual([chain.will(tower, number) for tower in towers], row)
        self.assertRaises(OutOfPlace, chain.will, 0, len(slow.given))

    def made(self, road, deeds):
        """A chain with these deeds."""
        chain = Chain(road)
        slow = SlowChain(road)
        for deed in deeds:
            slow.do(chain, deed)
        self.same(chain, slow)
        return chain


class Interface(unittest.TestCase):
    def test_what_is_defined_in_the_class_itself(self):
        told = {
            "__init__": "self, road", "give": "self, letter", "__call__": "self, moments=1", "will": "self, tower, number",
            "__len__": "self", "back": "self, *, many=1", "copy": "self", "trial": "self", "__eq__": "self, other",
        }
        for name, arguments in told.items():
            method = vars(Chain)[name]
            self.assertEqual(str(inspect.signature(method)), f"({arguments})")
        for name in ("road", "moment", "given", "showing", "arrived"):
            self.assertIsInstance(vars(Chain)[name], property)
        self.assertEqual(str(inspect.signature(under)), "(chain, deed)")
        self.assertEqual((Chain.__module__, under.__module__), (chains.__name__,) * 2)

    def test_a_new_chain(self):
        for road in ROADS:
            chain = Chain(road=road)
            self.assertEqual((chain.road, chain.moment, chain.given, chain.arrived, len(chain)), (road, 0, (), (), 0))
            self.assertEqual(chain.showing, (None,) * len(road))

    def test_a_road_that_is_none(self):
        for wrong, number in ((None, None), ((), None), (PLAIN + (None,), 3), (PLAIN + ((0, 0, 0),), 3), (Odd(), None)):
            with self.assertRaises(BadRoad) as caught:
                Chain(wrong)
            self.assertEqual(caught.exception.number, number)

    def test_properties_can_not_be_assigned(self):
        chain = Chain(PLAIN)
        for name in ("road", "moment", "given", "showing", "arrived"):
            self.assertRaises(AttributeError, setattr, chain, name, None)


class Deeds(ChainTest):
    def test_give(self):
        chain = Chain(PLAIN)
        self.assertEqual([chain.give("a"), chain.give(letter="b"), chain.give("a")], [0, 1, 2])
        self.assertEqual(chain.give("x" * 10), 3)
        self.assertEqual(chain.give(" "), 4)
        self.assertEqual(chain.give("~\n"), 5)
        self.assertEqual([letter for letter, _ in chain.given], ["a", "b", "a", "x" * 10, " ", "~\n"])

    def test_what_can_not_be_given(self):
        chain = self.made(PLAIN, ["a", 2])
        for thing in ["", "x" * 11, None, 5, True, b"a", ("a",), ["a"], Odd(), object(), 1.0, {"a": 1}, range(2)]:
            self.assertRaises(OutOfPlace, chain.give, thing)
        self.same(chain, SlowChain(PLAIN, ["a", 2]))

    def test_calls(self):
        chain = Chain(PLAIN)
        self.assertEqual([chain(), chain(1), chain(moments=5), chain(0), chain()], [1, 2, 7, 7, 8])
        self.assertEqual(chain(10 ** 9), 10 ** 9 + 8)
        self.assertEqual(chain(10 ** 9), 2 * 10 ** 9 + 8)
        self.assertEqual(chain.moment, 2 * 10 ** 9 + 8)
        for thing in [-1, 10 ** 9 + 1, True, False, None, "1", 1.0] + odd_things():
            self.assertRaises(OutOfPlace, chain, thing)
        self.assertEqual(chain.moment, 2 * 10 ** 9 + 8)
        chain.back(many=7)
        self.assertEqual(chain.moment, 0)
        self.assertRaises(Nothing, chain.back)

    def test_all_signs_at_once_go_as_on_the_road(self):
        for road in ROADS:
            chain = Chain(road)
            for number in range(45):
                self.assertEqual(chain.give(f"s{number}"), number)
            for number in (0, 1, 2, 20, 39, 40, 44):
                for tower in {0, len(road) // 2, len(road) - 1}:
                    self.assertEqual(chain.will(tower, number), when(road, tower, number))
            for _ in range(3):
                moment = chain(17)
                for tower, letter in enumerate(chain.showing):
                    number = shown(road, tower, moment)
                    self.assertEqual(letter, None if number is None else f"s{min(number, 44)}")

    def test_signs_given_late(self):
        chain = Chain(PLAIN)
        chain(100)
        chain.give("a")
        self.assertEqual([chain.will(tower, 0) for tower in range(3)], [100, 101, 103])
        chain.give("b")
        self.assertEqual([chain.will(tower, 1) for tower in range(3)], [102, 104, 106])
        chain(1000)
        chain.give("c")
        self.assertEqual([chain.will(tower, 2) for tower in range(3)], [1100, 1101, 1103])
        self.assertEqual(chain.given, (("a", 100), ("b", 100), ("c", 1100)))
        self.assertEqual(chain.showing, ("c", "b", "b"))

    def test_just_ahead_of_and_at_a_moment(self):
        for road in (PLAIN, LATE, ALONE, FLAT):
            chain = Chain(road)
            chain(3)
            letters = ["a", "b", "c", "b", "a"]
            for letter in letters:
                chain.give(letter)
            moments = [[chain.will(tower, number) for number in range(5)] for tower in range(len(road))]
            for moment in range(chain.moment, moments[-1][-1] + 2):
                told = [[letters[at] for at in range(5) if row[at] <= moment] for row in moments]
                self.assertEqual(chain.showing, tuple(row[-1] if row else None for row in told))
                self.assertEqual(chain.arrived, tuple(told[-1]))
                chain()

    def test_arrived(self):
        chain = Chain(PLAIN)
        for letter in ("x", "y", "x"):
            chain.give(letter)
        self.assertEqual([chain.will(2, number) for number in range(3)], [3, 6, 9])
        told = {}
        for moment in range(1, 12):
            chain()
            told[moment] = chain.arrived
        self.assertEqual((told[2], told[3], told[5], told[6]), ((), ("x",), ("x",), ("x", "y")))
        self.assertEqual((told[8], told[9], told[11]), (("x", "y"), ("x", "y", "x"), ("x", "y", "x")))

    def test_drawn_deeds(self):
        draw = random.Random(14)
        for _ in range(60):
            road = drawn_road(draw)
            chain, slow = Chain(road), SlowChain(road)
            for _ in range(draw.randint(1, 25)):
                if draw.random() < 0.2 and slow.deeds:
                    many = draw.randint(1, len(slow.deeds))
                    self.assertIsNone(chain.back(many=many))
                    del slow.deeds[-many:]
                else:
                    slow.do(chain, draw.choice(["a", "b", "cc", 0, 1, 2, 7]))
            self.same(chain, slow)

    def test_the_longest_road(self):
        self.made(MOST, ["a", 1, "b", 39000, "c", 10 ** 9, "d"])
        chain = self.made(MOST, ["a", 38999])
        self.assertEqual(chain.showing[-1], None)
        chain()
        self.assertEqual(chain.showing, ("a",) * 40)

    def test_will_of_what_was_not_given(self):
        chain = Chain(PLAIN)
        self.assertRaises(OutOfPlace, chain.will, 0, 0)
        chain.give("a")
        self.assertEqual(chain.will(tower=2, number=0), 3)
        for thing in [-1, 1, True, False, None, "0", 0.0, 10 ** 999] + odd_things():
            self.assertRaises(OutOfPlace, chain.will, 0, thing)
        for thing in [-1, 3, True, False, None, "0", 0.0, 10 ** 999] + odd_things():
            self.assertRaises(OutOfPlace, chain.will, thing, 0)
        # The tower is looked at ahead of the number.
        with self.assertRaises(OutOfPlace) as first:
            chain.will(3, 5)
        with self.assertRaises(OutOfPlace) as again:
            chain.will(3, 0)
        self.assertEqual(str(first.exception), str(again.exception))

    def test_later_changes_of_results_have_no_effect(self):
        chain = self.made(PLAIN, ["a", 5, "b"])
        for told in (chain.given, chain.showing, chain.arrived, chain.road):
            self.assertIs(type(told), tuple)
        given = chain.given
        chain.give("c")
        self.assertEqual(given, (("a", 0), ("b", 5)))


class Back(ChainTest):
    def test_back(self):
        deeds = ["a", 3, "b", 0, "c", 10, 2]
        for many in range(1, 8):
            chain = self.made(PLAIN, deeds)
            self.assertIsNone(chain.back(many=many))
            self.same(chain, SlowChain(PLAIN, deeds[:-many]))
            # What is given behind it goes on from there.
            slow = SlowChain(PLAIN, deeds[:-many])
            slow.do(chain, "z")
            slow.do(chain, 4)
            self.same(chain, slow)

    def test_one_deed(self):
        chain = self.made(PLAIN, ["a", 3, 0])
        chain.back()
        self.assertEqual((chain.moment, len(chain)), (3, 1))
        chain.back()
        self.assertEqual((chain.moment, len(chain)), (0, 1))
        chain.back()
        self.assertEqual((chain.moment, len(chain)), (0, 0))
        self.assertEqual(chain, Chain(PLAIN))

    def test_not_so_many(self):
        chain = Chain(PLAIN)
        self.assertRaises(Nothing, chain.back)
        self.assertRaises(Nothing, chain.back, many=1)
        chain = self.made(PLAIN, ["a", 3])
        for many in (3, 4, 10 ** 999):
            self.assertRaises(Nothing, chain.back, many=many)
        self.same(chain, SlowChain(PLAIN, ["a", 3]))

    def test_what_is_none(self):
        for chain in (Chain(PLAIN), self.made(PLAIN, ["a", 3])):
            deeds = ["a", 3] if len(chain) else []
            for thing in [0, -1, -10 ** 999, True, False, None, "1", 1.0, (1,), Odd(), [], b"1"]:
                self.assertRaises(OutOfPlace, chain.back, many=thing)
            self.same(chain, SlowChain(PLAIN, deeds))

    def test_by_its_name_alone(self):
        chain = self.made(PLAIN, ["a", 3])
        self.assertRaises(TypeError, chain.back, 1)
        self.same(chain, SlowChain(PLAIN, ["a", 3]))


class Copies(ChainTest):
    def test_a_copy_goes_on_by_itself(self):
        deeds = ["a", 3, "b", 1]
        chain = self.made(PLAIN, deeds)
        other = chain.copy()
        self.assertIs(type(other), Chain)
        self.assertIsNot(other, chain)
        self.assertEqual(other, chain)
        self.same(other, SlowChain(PLAIN, deeds))
        other.give("c")
        other(7)
        self.same(chain, SlowChain(PLAIN, deeds))
        self.same(other, SlowChain(PLAIN, deeds + ["c", 7]))
        chain.back(many=2)
        chain.give("d")
        self.same(chain, SlowChain(PLAIN, deeds[:2] + ["d"]))
        self.same(other, SlowChain(PLAIN, deeds + ["c", 7]))
        other.back(many=6)
        self.same(other, SlowChain(PLAIN))
        self.same(chain, SlowChain(PLAIN, deeds[:2] + ["d"]))

    def test_a_copy_in_a_trial_stays(self):
        chain = self.made(PLAIN, ["a"])
        with chain.trial():
            chain.give("b")
            other = chain.copy()
        self.same(other, SlowChain(PLAIN, ["a", "b"]))
        self.same(chain, SlowChain(PLAIN, ["a"]))


class Equality(ChainTest):
    def test_the_same_deeds_in_turn(self):
        for deeds in ([], ["a"], [0], [1], [1, 1], [2], ["a", 1], [1, "a"], ["a", "a"], ["aa"], ["1"], ["a", 0]):
            for others in ([], ["a"], [0], [1], [1, 1], [2], ["a", 1], [1, "a"], ["a", "a"], ["aa"], ["1"], ["a", 0]):
                one, other = self.made(PLAIN, deeds), self.made(PLAIN, others)
                self.assertIs(one == other, deeds == others)
                self.assertIs(one != other, deeds != others)

    def test_deeds_that_were_taken_back_do_not_count(self):
        chain = self.made(PLAIN, ["a", 3, "b"])
        chain.back(many=2)
        self.assertEqual(chain, self.made(PLAIN, ["a"]))
        with chain.trial():
            chain(5)
            self.assertNotEqual(chain, self.made(PLAIN, ["a"]))
        self.assertEqual(chain, self.made(PLAIN, ["a"]))

    def test_other_roads(self):
        for road in ROADS:
            for other in ROADS:
                self.assertIs(Chain(road) == Chain(other), road == other)
                self.assertIs(self.made(road, ["a", 1]) == self.made(other, ["a", 1]), road == other)
        self.assertEqual(Chain(PLAIN), Chain(tuple([tuple(list(triple)) for triple in PLAIN])))

    def test_what_is_no_chain(self):
        for chain in (Chain(LEAST), self.made(LEAST, ["a"])):
            for thing in (None, 0, 1, "", (), LEAST, [], {}, object(), Odd(), Chain, ("a",), ["a"]):
                self.assertIs(chain == thing, False)
                self.assertIs(chain != thing, True)


class Trials(ChainTest):
    def test_a_trial(self):
        deeds = ["a", 3, "b"]
        chain = self.made(PLAIN, deeds)
        with chain.trial() as held:
            self.assertIs(held, chain)
            chain.give("c")
            held(10)
            self.same(chain, SlowChain(PLAIN, deeds + ["c", 10]))
        self.same(chain, SlowChain(PLAIN, deeds))
        with chain.trial():
            pass
        self.same(chain, SlowChain(PLAIN, deeds))

    def test_deeds_from_ahead_of_it_are_taken_back_in_it(self):
        deeds = ["a", 3, "b"]
        chain = self.made(PLAIN, deeds)
        with chain.trial():
            chain.back(many=3)
            chain.give("x")
            chain(1)
            self.same(chain, SlowChain(PLAIN, ["x", 1]))
        self.same(chain, SlowChain(PLAIN, deeds))
        chain.give("c")
        self.same(chain, SlowChain(PLAIN, deeds + ["c"]))

    def test_a_block_that_ends_by_an_error(self):
        deeds = ["a", 3]
        for error in (OutOfPlace("x"), KeyError("x"), RuntimeError("x"), KeyboardInterrupt(), GeneratorExit()):
            chain = self.made(PLAIN, deeds)
            with self.assertRaises(type(error)) as caught:
                with chain.trial():
                    chain.give("b")
                    chain.back(many=2)
                    raise error
            self.assertIs(caught.exception, error)
            self.same(chain, SlowChain(PLAIN, deeds))

    def test_a_block_that_ends_by_return_break_and_continue(self):
        chain = self.made(PLAIN, ["a"])

        def tried():
            with chain.trial():
                return chain.give("b")
        self.assertEqual(tried(), 1)
        for at in range(4):
            with chain.trial():
                chain(at)
                if at == 2:
                    break
                continue
        self.same(chain, SlowChain(PLAIN, ["a"]))

    def test_trials_in_trials(self):
        chain = self.made(PLAIN, ["a"])
        with chain.trial():
            chain.give("b")
            with chain.trial():
                chain(5)
                chain.back(many=3)
                with chain.trial() as held:
                    held.give("d")
                    self.same(chain, SlowChain(PLAIN, ["d"]))
                self.same(chain, SlowChain(PLAIN))
                chain(2)
            self.same(chain, SlowChain(PLAIN, ["a", "b"]))
            try:
                with chain.trial():
                    chain(1)
                    raise ValueError
            except ValueError:
                self.same(chain, SlowChain(PLAIN, ["a", "b"]))
            chain(7)
            self.same(chain, SlowChain(PLAIN, ["a", "b", 7]))
        self.same(chain, SlowChain(PLAIN, ["a"]))

    def test_as_it_was_when_the_block_began(self):
        chain = self.made(PLAIN, ["a"])
        trial = chain.trial()
        chain.give("b")
        with trial:
            chain.give("c")
        self.same(chain, SlowChain(PLAIN, ["a", "b"]))

    def test_trials_of_two_chains(self):
        one, other = self.made(PLAIN, ["a"]), self.made(FLAT, [1])
        with one.trial(), other.trial() as held:
            self.assertIs(held, other)
            one(4)
            other.give("z")
        self.same(one, SlowChain(PLAIN, ["a"]))
        self.same(other, SlowChain(FLAT, [1]))

    def test_drawn(self):
        draw = random.Random(1515)

        def go_on(chain, slow, deep):
            for _ in range(draw.randint(1, 5)):
                chance = draw.random()
                if chance < 0.3 and deep < 4:
                    before = list(slow.deeds)
                    with chain.trial():
                        go_on(chain, slow, deep + 1)
                    slow.deeds = before
                elif chance < 0.5 and slow.deeds:
                    many = draw.randint(1, len(slow.deeds))
                    chain.back(many=many)
                    del slow.deeds[-many:]
                else:
                    slow.do(chain, draw.choice(["a", "b", 0, 1, 4]))
                self.same(chain, slow)
        for _ in range(40):
            road = drawn_road(draw, 3)
            go_on(Chain(road), SlowChain(road), 0)


class Under(ChainTest):
    def test_under(self):
        chain = self.made(PLAIN, ["a"])

        def deed(held):
            self.assertIs(held, chain)
            held.give("b")
            held(100)
            return held.showing
        self.assertEqual(under(chain, deed), ("b", "b", "b"))
        self.same(chain, SlowChain(PLAIN, ["a"]))
        self.assertIsNone(under(chain=chain, deed=lambda held: held.back()))
        self.assertEqual(under(deed=lambda held: held(9), chain=chain), 9)
        self.assertEqual(under(chain, len), 1)
        self.assertIs(under(chain, lambda held: held), chain)
        self.same(chain, SlowChain(PLAIN, ["a"]))

    def test_what_can_be_called(self):
        chain = self.made(PLAIN, ["a"])

        class Deed:
            def __call__(self, held):
                return held(3)
        self.assertEqual(under(chain, Deed()), 3)
        self.assertEqual(under(chain, Chain.copy), chain)
        self.same(chain, SlowChain(PLAIN, ["a"]))

    def test_a_deed_that_raises_an_error(self):
        chain = self.made(PLAIN, ["a", 1])
        error = ZeroDivisionError()

        def deed(held):
            held.back(many=2)
            raise error
        with self.assertRaises(ZeroDivisionError) as caught:
            under(chain, deed)
        self.assertIs(caught.exception, error)
        self.assertRaises(Nothing, under, chain, lambda held: held.back(many=3))
        self.same(chain, SlowChain(PLAIN, ["a", 1]))

    def test_under_in_under(self):
        chain = self.made(PLAIN, ["a"])

        def outer(held):
            held(2)
            return (under(held, lambda inner: inner.give("b")), held.moment, len(held))
        self.assertEqual(under(chain, outer), (1, 2, 1))
        self.same(chain, SlowChain(PLAIN, ["a"]))

    def test_what_is_none(self):
        chain = self.made(PLAIN, ["a"])
        for thing in [None, 5, "a", (), PLAIN, Chain, Odd(), object(), lambda held: 1]:
            self.assertRaises(OutOfPlace, under, thing, len)
            self.assertRaises(OutOfPlace, under, thing, None)
        for thing in [None, 5, True, "a", b"a", 1.0, 1j, (), [], {}, set(), frozenset(), range(2), object(), ..., ("a",)]:
            self.assertRaises(OutOfPlace, under, chain, thing)
        self.same(chain, SlowChain(PLAIN, ["a"]))


if __name__ == "__main__":
    unittest.main()
