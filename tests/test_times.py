"""Promises [11] and [12]: roads, T, PACE, LAG, what is shown, and like roads."""

import random
import unittest

from tests.roads import ALONE, FLAT, LATE, LEAST, MOST, PLAIN, ROADS, SLOW, drawn_road
from tests.samples import Odd, odd_things
from towerline.errors import BadRoad, OutOfPlace
from towerline.times import lag, like_when, need_road, pace, shown, slowest, when

MANY = 10 ** 30


def slow_times(road, many):
    """T(I, J) of the signs 0 to many - 1, as a list of lists by signs, by the four terms."""
    found = []
    for sign in range(many):
        row = []
        for tower, (see, hold, answer) in enumerate(road):
            terms = [0]
            if tower > 0:
                terms.append(row[tower - 1] + see)
            if sign > 0:
                terms.append(found[sign - 1][tower] + hold)
            if tower + 1 < len(road) and sign > 0:
                terms.append(found[sign - 1][tower + 1] + answer)
            row.append(max(terms))
        found.append(row)
    return found


def slow_pace(road):
    """The PACE, by its words."""
    holds = [hold for _, hold, _ in road]
    return max(holds + [road[tower + 1][0] + road[tower][2] for tower in range(len(road) - 1)])


def slow_lag(times, beat):
    """The LAG, if it shows in these times and the signs behind them go on like the last ones."""
    late = [
        sign for sign in range(len(times) - 1)
        if any(two - one != beat for one, two in zip(times[sign], times[sign + 1]))
    ]
    return late[-1] + 1 if late else 0


class NeedRoad(unittest.TestCase):
    def number(self, thing):
        with self.assertRaises(BadRoad) as caught:
            need_road(thing)
        return caught.exception.number

    def test_itself(self):
        for road in ROADS:
            self.assertIs(need_road(road), road)
            self.assertIs(need_road(thing=road), road)

    def test_no_tuple_of_1_to_40_things(self):
        for thing in (None, (), [], list(PLAIN), "abc", 5, True, Odd(), MOST + LEAST, (None,) * 41, {0: (0, 1, 0)}):
            self.assertIsNone(self.number(thing))

    def test_a_triple_that_is_none(self):
        wrong = [thing for thing in odd_things() if type(thing) is not tuple or len(thing) != 3] + [
            (), (0, 1), (0, 1, 0, 0), [0, 1, 0], "010", (-1, 1, 0), (0, 0, 0), (0, 1, -1), (1001, 1, 0), (0, 1001, 0),
            (0, 1, 1001), (True, 1, 0), (0, True, 0), (0, 1, False), ("0", 1, 0), (0, 1.0, 0), (0, 1, None), (None,) * 3,
            (0, 10 ** 999, 0), (-10 ** 999, 1, 0), (0, -1, 0), (Odd(), Odd(), Odd()), (0, 1, (0,)),
        ]
        for thing in wrong:
            for at in range(4):
                self.assertEqual(self.number(PLAIN[:at] + (thing,) + PLAIN[at:]), at)
            self.assertEqual(self.number((thing,)), 0)
            self.assertEqual(self.number(MOST[:39] + (thing,)), 39)

    def test_the_first_one_is_told(self):
        self.assertEqual(self.number(((0, 1, 0), (0, 0, 0), None)), 1)
        self.assertEqual(self.number((None, (0, 0, 0))), 0)

    def test_a_wrong_road_is_told_ahead_of_all_else(self):
        for wrong, number in ((PLAIN + (None,), 3), ((), None), (None, None)):
            for call, things in (
                (when, (None, None)), (when, (0, 0)), (pace, ()), (lag, ()), (shown, (None, None)), (shown, (0, 0)),
                (slowest, ()), (when, (99, 0)),
            ):
                with self.assertRaises(BadRoad) as caught:
                    call(wrong, *things)
                self.assertEqual(caught.exception.number, number)


class When(unittest.TestCase):
    def test_by_the_four_terms(self):
        draw = random.Random(11)
        for road in ROADS + tuple(drawn_road(draw) for _ in range(150)):
            times = slow_times(road, 30)
            for sign, row in enumerate(times):
                self.assertEqual([when(road, tower, sign) for tower in range(len(road))], row)

    def test_plain(self):
        self.assertEqual([when(PLAIN, 0, sign) for sign in range(4)], [0, 2, 5, 8])
        self.assertEqual([when(PLAIN, 2, sign) for sign in range(4)], [3, 6, 9, 12])
        self.assertEqual(when(road=ALONE, tower=0, sign=5), 15)
        # The first tower does not wait for what is ahead of it, nor the last one for what is behind.
        self.assertEqual([when(((1000, 1, 0), (0, 1, 1000)), tower, 3) for tower in (0, 1)], [3, 3])

    def test_the_longest_road(self):
        times = slow_times(MOST, 45)
        for sign in (0, 1, 2, 38, 39, 40, 44):
            for tower in (0, 1, 20, 38, 39):
                self.assertEqual(when(MOST, tower, sign), times[sign][tower])
        self.assertEqual(when(MOST, 39, MANY), 39000 + 2000 * MANY)

    def test_sign_10_to_the_30(self):
        self.assertEqual(when(LEAST, 0, MANY), MANY)
        self.assertEqual(when(ALONE, 0, MANY), 3 * MANY)
        draw = random.Random(12)
        for road in ROADS[:5] + tuple(drawn_road(draw) for _ in range(40)):
            times = slow_times(road, 400)
            beat = slow_pace(road)
            for tower in range(len(road)):
                self.assertEqual(when(road, tower, MANY), times[399][tower] + (MANY - 399) * beat)

    def test_what_is_none(self):
        for thing in [-1, 3, 10 ** 999, -10 ** 999, True, False, None, "0", 0.0, (0,)] + odd_things():
            self.assertRaises(OutOfPlace, when, PLAIN, thing, 0)
            self.assertRaises(OutOfPlace, when, PLAIN, thing, None)
            self.assertRaises(OutOfPlace, shown, PLAIN, thing, 0)
        wrong = [-1, MANY + 1, 10 ** 31, True, False, None, "0", 0.0, (0,)] + odd_things()
        for thing in wrong:
            self.assertRaises(OutOfPlace, when, PLAIN, 0, thing)
            self.assertRaises(OutOfPlace, shown, PLAIN, 0, thing)
        self.assertRaises(OutOfPlace, when, MOST, 40, 0)


class PaceAndLag(unittest.TestCase):
    def test_pace(self):
        self.assertEqual([pace(road) for road in ROADS], [3, 3, 1, 18, 11, 2000, 1])
        self.assertEqual(pace(road=((1000, 2, 1), (3, 1, 1000))), 4)
        draw = random.Random(13)
        for _ in range(200):
            road = drawn_road(draw)
            self.assertEqual(pace(road), slow_pace(road))

    def test_slowest(self):
        self.assertEqual(slowest(ALONE), ((0, "hold"),))
        self.assertEqual(slowest(PLAIN), ((1, "hold"), (1, "ring")))
        self.assertEqual(slowest(FLAT), ((0, "hold"), (1, "hold"), (2, "hold")))
        self.assertEqual(slowest(LATE), ((3, "ring"),))
        self.assertEqual(slowest(MOST), tuple((tower, "ring") for tower in range(39)))
        both = ((0, 2, 1), (1, 2, 1), (1, 2, 5))
        self.assertEqual(
            slowest(road=both), ((0, "hold"), (0, "ring"), (1, "hold"), (1, "ring"), (2, "hold")),
        )
        draw = random.Random(14)
        for _ in range(200):
            road = drawn_road(draw)
            beat = slow_pace(road)
            told = [(tower, "hold") for tower, triple in enumerate(road) if triple[1] == beat]
            told += [(at, "ring") for at in range(len(road) - 1) if road[at + 1][0] + road[at][2] == beat]
            self.assertEqual(slowest(road), tuple(sorted(told)))

    def test_lag(self):
        self.assertEqual(lag(LEAST), 0)
        self.assertEqual(lag(ALONE), 0)
        self.assertEqual(lag(FLAT), 0)
        self.assertEqual(lag(((9, 1, 1), (9, 1, 9))), 0)
        # Only the last tower is slow: the first one shows its signs at 0, 1, 5, 10, 15.
        self.assertEqual(lag(((0, 1, 0), (0, 5, 0))), 2)
        self.assertEqual(lag(road=LATE), slow_lag(slow_times(LATE, 100), 18))
        for road in ROADS:
            self.assertEqual(lag(road), slow_lag(slow_times(road, 300), slow_pace(road)))

    def test_lag_is_the_least(self):
        draw = random.Random(15)
        told = []
        for _ in range(400):
            road = drawn_road(draw)
            times = slow_times(road, 250)
            found = lag(road)
            self.assertLess(found, 200)
            self.assertEqual(found, slow_lag(times, slow_pace(road)))
            told.append(found)
        self.assertGreater(told.count(0), 20)
        self.assertGreater(len(set(told)), 8)

    def test_great_lags(self):
        # What is slowest is slower by 1 alone, and far away.
        near = ((0, 999, 0), (999, 1, 0), (0, 1000, 0))
        far = ((0, 999, 0),) + ((0, 1, 0),) * 38 + ((0, 1000, 0),)
        farther = ((0, 1, 999),) + ((0, 1, 999),) * 38 + ((0, 1000, 0),)
        like = ((0, 1, 1000),) + ((999, 1, 1000),) * 38 + ((1000, 1, 0),)
        told = [lag(road) for road in (near, far, farther, like)]
        self.assertEqual(told, [1001, 39000, 39, 38])
        self.assertEqual(slow_lag(slow_times(near, 1200), 1000), 1001)
        for road in (near, far, farther, like):
            self.checked_at(road, lag(road))

    def checked_at(self, road, found):
        """Whether the next sign is PACE later from this one on, as far as can be seen, and not ahead of it."""
        beat = slow_pace(road)
        for sign in (found, found + 1, found + 7, found + 1000, MANY - 1):
            for tower in range(len(road)):
                self.assertEqual(when(road, tower, sign + 1) - when(road, tower, sign), beat)
        if found > 0:
            late = [when(road, tower, found) - when(road, tower, found - 1) for tower in range(len(road))]
            self.assertNotEqual(set(late), {beat})

    def test_lags_of_drawn_long_roads(self):
        draw = random.Random(16)
        for _ in range(30):
            most = draw.choice([2, 1000])
            road = tuple(
                (draw.randint(0, most), draw.randint(1, most), draw.randint(0, most))
                for _ in range(draw.randint(20, 40))
            )
            self.checked_at(road, lag(road))


class Shown(unittest.TestCase):
    def test_against_when(self):
        draw = random.Random(17)
        for road in ROADS[:5] + (LEAST,) + tuple(drawn_road(draw) for _ in range(60)):
            times = slow_times(road, 60)
            for tower in range(len(road)):
                row = [moments[tower] for moments in times]
                for moment in range(min(40, row[-1])):
                    told = [sign for sign, first in enumerate(row) if first <= moment]
                    self.assertEqual(shown(road, tower, moment), told[-1] if told else None)

    def test_just_ahead_of_and_at_a_moment(self):
        draw = random.Random(18)
        for road in (PLAIN, SLOW, MOST) + tuple(drawn_road(draw) for _ in range(20)):
            for tower in range(len(road)):
                for sign in (0, 1, 2, 5, 41, 1000, 10 ** 20):
                    moment = when(road, tower, sign)
                    self.assertEqual(shown(road, tower, moment), sign)
                    if moment > 0:
                        self.assertEqual(shown(road, tower, moment - 1), sign - 1 if sign > 0 else None)

    def test_none_ahead_of_the_first_sign(self):
        self.assertIsNone(shown(PLAIN, 2, 2))
        self.assertEqual(shown(PLAIN, 2, 3), 0)
        self.assertEqual(shown(PLAIN, 0, 0), 0)
        self.assertIsNone(shown(road=PLAIN, tower=1, moment=0))
        self.assertIsNone(shown(MOST, 39, 38999))
        self.assertEqual(shown(MOST, 39, 39000), 0)

    def test_all_sees_0(self):
        for tower in range(3):
            self.assertEqual([shown(FLAT, tower, moment) for moment in range(4)], [0, 1, 2, 3])

    def test_moment_10_to_the_30(self):
        self.assertEqual(shown(LEAST, 0, MANY), MANY)
        self.assertEqual(shown(FLAT, 2, MANY), MANY)
        for road in ROADS:
            for tower in (0, len(road) - 1):
                number = shown(road, tower, MANY)
                self.assertLessEqual(when(road, tower, number), MANY)
                if number < MANY:
                    self.assertGreater(when(road, tower, number + 1), MANY)


class LikeRoads(unittest.TestCase):
    def test_the_same_as_a_road_of_like_triples(self):
        draw = random.Random(19)
        triples = [(0, 1, 0), (1000, 1000, 1000), (7, 3, 9), (1, 5, 1), (0, 2, 3)]
        triples += [(draw.randint(0, 4), draw.randint(1, 4), draw.randint(0, 4)) for _ in range(20)]
        for triple in triples:
            for many in (1, 2, 3, 5, 40):
                road = (triple,) * many
                for tower in (0, many // 2, many - 1):
                    for sign in (0, 1, 2, 7, 39, 40, 41, MANY):
                        self.assertEqual(like_when(triple, many, tower, sign), when(road, tower, sign))

    def test_many_towers(self):
        self.assertEqual(like_when((3, 4, 5), MANY, MANY - 1, MANY), 3 * (MANY - 1) + 8 * MANY)
        self.assertEqual(like_when((3, 9, 5), MANY, 7, 2), 21 + 18)
        self.assertEqual(like_when(triple=(3, 4, 5), many=1, tower=0, sign=MANY), 4 * MANY)
        self.assertEqual(like_when((3, 4, 5), 2, 0, 1), 8)
        self.assertEqual(like_when((3, 4, 5), 2, 1, 1), 11)

    def test_what_is_none(self):
        for thing in [(0, 0, 0), (0, 1), (0, 1, 0, 0), [0, 1, 0], (0, True, 0), (1001, 1, 0), ((0, 1, 0),), Odd()]:
            self.assertRaises(OutOfPlace, like_when, thing, 2, 0, 0)
            self.assertRaises(OutOfPlace, like_when, thing, None, None, None)
        for thing in [0, -1, MANY + 1, True, "1", 1.0] + odd_things():
            self.assertRaises(OutOfPlace, like_when, (0, 1, 0), thing, 0, 0)
        for thing in [2, -1, True, False, "0", 0.0, MANY] + odd_things():
            self.assertRaises(OutOfPlace, like_when, (0, 1, 0), 2, thing, 0)
        for thing in [-1, MANY + 1, True, False, "0", 0.0] + odd_things():
            self.assertRaises(OutOfPlace, like_when, (0, 1, 0), 2, 0, thing)


if __name__ == "__main__":
    unittest.main()
