"""Fires within bounds [12]."""

import itertools
import random
import unittest

from secondknock import spreads as own
from secondknock.errors import CanNot, NoPlace, TooMany
from tests import oracle
from tests.styles import StyledCase

WARD = (3, ((0, 1, 2, 4), (0, 2, 4, 9), (1, 2, 1, 3)))
VAULT = (5, ((0, 2, 4, 4), (0, 3, 6, 6), (0, 4, 1, 10), (4, 1, 1, 1), (4, 3, 1, 1)))
LONE = (2, ())
# 4,000 SPREADS, and more.
FULL = (4, ((0, 1, 1, 20), (0, 2, 1, 20), (1, 3, 1, 10)))
OVER = (4, ((0, 1, 1, 20), (0, 2, 1, 20), (1, 3, 1, 11)))


def all_spreads(land):
    return itertools.product(*[range(low, high + 1) for _, _, low, high in land[1]])


def arrivals(land, start, spreads):
    ways = [way[:2] + (ticks,) for way, ticks in zip(land[1], spreads)]
    return oracle.arrivals(land[0], ways, start)


def second(ticks, places):
    told = sorted(ticks[place] for place in places if ticks[place] is not None)
    return told[1] if len(told) > 1 else None


def some_land(dice, places, most, widest):
    pairs = [(one, other) for one in range(places) for other in range(places) if one != other]
    some = sorted(dice.sample(pairs, min(len(pairs), dice.randint(0, most))))
    lows = [dice.randint(1, 5) for _ in some]
    return (places, tuple(pair + (low, low + dice.randint(0, widest)) for pair, low in zip(some, lows)))


class Ordinary(StyledCase):
    def test_arrivals_by(self):
        self.told((0, 3, 5), own.arrivals_by, WARD, 0, (3, 7, 2))
        self.told((None, 0, 2), own.arrivals_by, WARD, 1, (3, 7, 2))
        self.told((None, None, 0), own.arrivals_by, WARD, 2, (3, 7, 2))
        self.told((None, 0), own.arrivals_by, LONE, 1, ())

    def test_second_arrival(self):
        self.told(4, own.second_arrival, VAULT, 0, (4, 6, 1, 1, 1), (1, 2))
        self.told(2, own.second_arrival, VAULT, 0, (4, 6, 1, 1, 1), (1, 2, 4, 1))
        # A place that stands there twice counts twice.
        self.told(4, own.second_arrival, VAULT, 0, (4, 6, 1, 1, 1), (2, 2))
        self.told(0, own.second_arrival, VAULT, 0, (4, 6, 1, 1, 1), (0, 2, 0))
        # Fewer reached than two.
        self.told(None, own.second_arrival, WARD, 1, (3, 7, 2), (0, 2))
        self.told(None, own.second_arrival, WARD, 2, (3, 7, 2), (0, 1, 0))

    def test_roads(self):
        self.told([(0, 2), (1,)], own.roads, WARD, 0, 2)
        self.told([()], own.roads, WARD, 0, 0)
        self.told([], own.roads, WARD, 1, 0)
        self.told([()], own.roads, LONE, 0, 0)
        round_about = (3, ((0, 1, 1, 1), (1, 0, 1, 1), (1, 2, 1, 1), (2, 0, 1, 1), (2, 1, 1, 1)))
        self.told([(0,)], own.roads, round_about, 0, 1)
        self.told([(3, 0), (4,)], own.roads, round_about, 2, 1)
        self.told([(1,), (2, 3)], own.roads, round_about, 1, 0)

    def test_most_late_and_lateness(self):
        self.told(0, own.most_late, WARD, 0, 1, 2)
        self.told((0, 3), own.lateness, WARD, 0, 2, 1)
        self.told((-3, 0), own.lateness, WARD, 0, 1, 2)
        # A place that is other itself; the start.
        self.told(0, own.most_late, WARD, 0, 2, 2)
        self.told((0, 0), own.lateness, WARD, 0, 2, 2)
        self.told(-3, own.most_late, WARD, 0, 0, 2)
        self.told((3, 7), own.lateness, WARD, 0, 2, 0)
        # A place that is never reached.
        for place, other in ((0, 2), (2, 0), (0, 0)):
            self.told(None, own.most_late, WARD, 1, place, other)
            self.told(None, own.lateness, WARD, 1, place, other)

    def test_worst(self):
        self.told((1,), own.worst_road, WARD, 0, 1, 2)
        self.told((4, 4, 3), own.worst_spreads, WARD, 0, 1, 2)
        # The road of no way: all ways are high.
        self.told((), own.worst_road, WARD, 0, 2, 0)
        self.told((4, 9, 3), own.worst_spreads, WARD, 0, 2, 0)
        # The least of several roads.
        self.told((0, 2), own.worst_road, WARD, 0, 2, 2)
        for place, other in ((0, 2), (2, 0), (0, 0)):
            self.raises(CanNot(), own.worst_road, WARD, 1, place, other)
            self.raises(CanNot(), own.worst_spreads, WARD, 1, place, other)

    def test_is_worst(self):
        self.things(
            [(4, 4, 1), (4, 4, 3)],
            [(2, 4, 3), (4, 4), (4, 4, 3, 3), [4, 4, 3], (4, 4, 4), (5, 4, 3), (4, 3, 3), (4, 4, 0), (True, 4, 3), (4, 4, None)],
            own.is_worst, WARD, 0, 1, 2,
        )
        self.things([], [(4, 4, 3)], own.is_worst, WARD, 1, 0, 2)
        self.things([()], [((),)], own.is_worst, LONE, 0, 0, 0)
        self.things([], [(), ((),)], own.is_worst, LONE, 0, 0, 1)

    def test_first_and_last(self):
        self.told((3, 7), own.first_and_last, WARD, 0, 2)
        self.told((0, 0), own.first_and_last, WARD, 2, 2)
        self.told(None, own.first_and_last, WARD, 2, 0)

    def test_barred(self):
        # 2 comes 0 to 3 ticks behind 1.
        for wait, never, always in ((0, False, False), (2, False, False), (3, False, True), (9, False, True)):
            self.told(never, own.never_barred, WARD, 0, 1, wait, 2)
            self.told(always, own.always_barred, WARD, 0, 1, wait, 2)
        # 2 comes 3 to 7 ticks behind 0.
        for wait, never in ((0, True), (2, True), (3, False)):
            self.told(never, own.never_barred, WARD, 0, 0, wait, 2)
        self.told(True, own.never_barred, WARD, 1, 2, 200, 0)
        self.told(False, own.always_barred, WARD, 1, 2, 200, 0)
        for function in (own.never_barred, own.always_barred):
            self.raises(CanNot(), function, WARD, 1, 0, 1, 2)
            self.raises(CanNot(), function, WARD, 1, 0, 1, 0)

    def test_second_late(self):
        self.told(3, own.second_late, WARD, 0, (1, 2), 1)
        self.told(0, own.second_late, WARD, 0, (1, 2), 2)
        self.told(7, own.second_late, WARD, 0, (2, 2), 0)
        self.told(None, own.second_late, WARD, 1, (0, 2), 1)
        self.told(None, own.second_late, WARD, 1, (1, 2), 0)

    def test_late_behind(self):
        self.told(0, own.late_behind, VAULT, 0, 3, (1, 2))
        self.told(0, own.late_behind, WARD, 0, 1, (1, 2))
        self.told(None, own.late_behind, WARD, 1, 1, (0, 2))
        self.told(None, own.late_behind, WARD, 1, 0, (1, 2))


class Errors(StyledCase):
    def test_no_place(self):
        for place in (-1, 3, 99):
            for function, args in (
                (own.arrivals_by, ((3, 7, 2),)), (own.second_arrival, ((3, 7, 2), (77, 78))), (own.roads, (77,)),
                (own.most_late, (77, 78)), (own.lateness, (77, 78)), (own.worst_road, (77, 78)),
                (own.worst_spreads, (77, 78)), (own.is_worst, (77, 78, ())), (own.first_and_last, (77,)),
                (own.never_barred, (77, 0, 78)), (own.always_barred, (77, 0, 78)), (own.second_late, ((77, 78), 79)),
                (own.late_behind, (77, (78, 79))),
            ):
                self.raises(NoPlace(place), function, WARD, place, *args)
            # The start 1 does not reach 0: CanNot and None come later.
            for function, args in (
                (own.second_arrival, ((3, 7, 2), (0, place, 77))), (own.roads, (place,)), (own.most_late, (place, 77)),
                (own.most_late, (0, place)), (own.lateness, (place, 77)), (own.lateness, (0, place)),
                (own.worst_road, (place, 77)), (own.worst_road, (0, place)), (own.worst_spreads, (place, 77)),
                (own.worst_spreads, (0, place)), (own.is_worst, (place, 77, None)), (own.is_worst, (0, place, None)),
                (own.first_and_last, (place,)), (own.never_barred, (place, 1, 77)), (own.never_barred, (0, 1, place)),
                (own.always_barred, (place, 1, 77)), (own.always_barred, (0, 1, place)),
                (own.second_late, ((0, place, 77), 78)), (own.second_late, ((0, 0), place)),
                (own.late_behind, (place, (77, 78))), (own.late_behind, (0, (0, place, 77))),
            ):
                self.raises(NoPlace(place), function, WARD, 1, *args)

    def test_too_many(self):
        self.assertEqual(own.late_behind(FULL, 0, 3, (1, 2)), 10)
        self.raises(TooMany(), own.late_behind, OVER, 0, 3, (1, 2))
        # Whatever is reached, but behind NoPlace.
        self.raises(TooMany(), own.late_behind, OVER, 3, 0, (1, 2))
        self.raises(NoPlace(4), own.late_behind, OVER, 3, 0, (1, 4))
        # No other function.
        self.assertEqual(own.second_late(OVER, 0, (1, 2), 3), 20 - 2)
        self.assertEqual(own.most_late(OVER, 0, 2, 3), 20 - 2)


class ForAll(unittest.TestCase):
    """Small MAPS by a seed, all their SPREADS, roads by the words of [12]."""

    def lands(self, seed, many):
        dice = random.Random(seed)
        for _ in range(many):
            yield dice, some_land(dice, dice.randint(1, 5), 5, 2)

    def test_roads(self):
        for dice, land in self.lands(61, 200):
            start, place = dice.randrange(land[0]), dice.randrange(land[0])
            found = []
            for many in range(land[0]):
                for row in itertools.permutations(range(len(land[1])), many):
                    passed = [start]
                    for number in row:
                        if land[1][number][0] != passed[-1]:
                            break
                        passed.append(land[1][number][1])
                    if len(passed) == many + 1 and passed[-1] == place and len(set(passed)) == many + 1:
                        found.append(row)
            self.assertEqual(own.roads(land, start, place), sorted(found))

    def test_lateness(self):
        gone = widest = 0
        for dice, land in self.lands(62, 150):
            start = dice.randrange(land[0])
            rows = [(spreads, arrivals(land, start, spreads)) for spreads in all_spreads(land)]
            for spreads, told in rows[:9]:
                self.assertEqual(own.arrivals_by(land, start, spreads), told)
            for place, other in itertools.product(range(land[0]), repeat=2):
                if rows[0][1][place] is None or rows[0][1][other] is None:
                    self.assertIsNone(own.most_late(land, start, place, other))
                    self.assertIsNone(own.lateness(land, start, place, other))
                    gone += 1
                    continue
                late = {told[place] - told[other] for _, told in rows}
                low, high = own.lateness(land, start, place, other)
                self.assertEqual(late, set(range(low, high + 1)))
                widest = max(widest, high - low)
                self.assertEqual(own.most_late(land, start, place, other), high)
                corner = own.worst_spreads(land, start, place, other)
                worst = [spreads for spreads, told in rows if told[place] - told[other] == high]
                self.assertIn(corner, worst)
                for spreads, _ in rows[:9]:
                    self.assertEqual(own.is_worst(land, start, place, other, spreads), spreads in worst)
                # The least road whose corner is as bad.
                fit = [
                    road for road in own.roads(land, start, other)
                    if tuple(low if at in road else high for at, (_, _, low, high) in enumerate(land[1])) in worst
                ]
                self.assertEqual(own.worst_road(land, start, place, other), min(fit))
                for wait in range(4):
                    behind = [told[other] - told[place] for _, told in rows]
                    self.assertEqual(own.never_barred(land, start, place, wait, other), min(behind) > wait)
                    self.assertEqual(own.always_barred(land, start, place, wait, other), max(behind) <= wait)
        self.assertGreater(min(gone, widest), 3)

    def test_not_reached(self):
        for dice, land in self.lands(63, 150):
            start = dice.randrange(land[0])
            ticks = arrivals(land, start, [way[2] for way in land[1]])
            rows = [arrivals(land, start, spreads) for spreads in all_spreads(land)]
            for place, other in itertools.product(range(land[0]), repeat=2):
                if ticks[place] is None:
                    self.assertIsNone(own.first_and_last(land, start, place))
                    self.assertRaises(CanNot, own.never_barred, land, start, place, 2, other)
                    self.assertRaises(CanNot, own.always_barred, land, start, place, 2, other)
                else:
                    span = (min(told[place] for told in rows), max(told[place] for told in rows))
                    self.assertEqual(own.first_and_last(land, start, place), span)
                    if ticks[other] is None:
                        self.assertTrue(own.never_barred(land, start, place, 2, other))
                        self.assertFalse(own.always_barred(land, start, place, 2, other))
                if None in (ticks[place], ticks[other]):
                    self.assertRaises(CanNot, own.worst_road, land, start, place, other)

    def test_second_arrivals(self):
        told = set()
        for dice, land in self.lands(64, 250):
            start, place = dice.randrange(land[0]), dice.randrange(land[0])
            feelers = tuple(dice.randrange(land[0]) for _ in range(dice.randint(2, 4)))
            rows = [arrivals(land, start, spreads) for spreads in all_spreads(land)]
            for spreads, row in list(zip(all_spreads(land), rows))[:9]:
                self.assertEqual(own.second_arrival(land, start, spreads, feelers), second(row, feelers))
            pairs = [(second(row, feelers), row[place]) for row in rows]
            if None in pairs[0]:
                self.assertIsNone(own.second_late(land, start, feelers, place))
                self.assertIsNone(own.late_behind(land, start, place, feelers))
                continue
            most = max(one - other for one, other in pairs)
            self.assertEqual(own.second_late(land, start, feelers, place), most)
            self.assertEqual(own.late_behind(land, start, place, feelers), max(other - one for one, other in pairs))
            told.add(most)
        self.assertGreater(len(told), 5)


class Greatest(unittest.TestCase):
    """Six places, ten ways, by all corners."""

    def test_by_corners(self):
        dice = random.Random(65)
        for _ in range(4):
            land = some_land(dice, 6, 10, 15)
            while len(land[1]) < 10:
                land = some_land(dice, 6, 10, 15)
            rows = [
                arrivals(land, 0, told)
                for told in itertools.product(*[(low, high) for _, _, low, high in land[1]])
            ]
            for place, other in itertools.product(range(6), repeat=2):
                if rows[0][place] is not None and rows[0][other] is not None:
                    most = max(told[place] - told[other] for told in rows)
                    self.assertEqual(own.most_late(land, 0, place, other), most)
                    feelers = (place, (place + 2) % 6, other)
                    if second(rows[0], feelers) is not None:
                        most = max(second(told, feelers) - told[other] for told in rows)
                        self.assertEqual(own.second_late(land, 0, feelers, other), most)
