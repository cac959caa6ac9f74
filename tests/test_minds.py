"""One mind [15]."""

import itertools
import random
import unittest

from secondknock import minds as own
from secondknock.errors import NoOut, NoZone, TooMany, Unfit
from tests import oracle
from tests.samples import bare, bare_house, barred, inn, loft, some_begins, some_house, some_lines, tower
from tests.styles import StyledCase

A, B, C, D = (0, 0), (0, 2), (0, 3), (0, 6)
LOW, HIGH = (0, 2), (1, 5)
TORN = inn[:2] + (((0, "any", (0, 1), 2, (1,), 0, 0, 0),),) + inn[3:]
# One ZONE calls OUT 0 by a LINE and bars it by another one.
ASTRIDE = inn[:2] + (((0, "any", (0,), 2, (), 0, 0, 0), (0, "any", (1,), 1, (0,), 0, 0, 0)),) + inn[3:]


def key(times):
    return [oracle.later(tick) for tick in times]


def between(low, high):
    return itertools.product(*[[None] if one is None else range(one, other + 1) for one, other in zip(low, high)])


class Corners(StyledCase):
    def test_two_minded(self):
        self.told((), own.two_minded, barred)
        self.told(((0, 1),), own.two_minded, TORN)
        self.told(((0, 0),), own.two_minded, ASTRIDE)
        self.told((), own.two_minded, bare)
        both = bare_house(2, [(0, "all", (0, 1), 2, (0, 1), out, 0, 0) for out in (1, 0)], ("bell", "door"))
        self.told(((0, 0), (0, 1), (1, 0), (1, 1)), own.two_minded, both)

    def test_corners(self):
        self.told((1, 2), own.late_corner, barred, LOW, HIGH, 0)
        self.told((0, 5), own.early_corner, barred, LOW, HIGH, 0)
        self.told((0, 5), own.late_corner, barred, LOW, HIGH, 1)
        self.told((0, 2), own.early_corner, barred, LOW, HIGH, 1)
        # low and high alike; None in both; an OUT without LINES.
        self.told(LOW, own.late_corner, barred, LOW, LOW, 0)
        self.told((None, 2), own.late_corner, barred, (None, 2), (None, 5), 0)
        self.told((None, 5), own.early_corner, barred, (None, 2), (None, 5), 0)
        self.told((0, 2, None), own.late_corner, tower, (0, 2, None), (4, 4, None), 1)

    def test_latest_and_earliest(self):
        self.told(None, own.latest_on, barred, LOW, HIGH, 0)
        self.told(3, own.earliest_on, barred, LOW, HIGH, 0)
        self.told(6, own.latest_on, barred, LOW, HIGH, 1)
        self.told(3, own.earliest_on, barred, LOW, HIGH, 1)
        self.told(4, own.latest_on, barred, (1, None), (1, None), 0)
        self.told(None, own.earliest_on, barred, (None, 0), (None, 0), 0)

    def test_unfit(self):
        functions = (own.late_corner, own.early_corner, own.latest_on, own.earliest_on)
        for function in functions + (own.ticks_had, own.may_be_silent):
            for low, high in (((0, 2), (1, 1)), ((None, 2), (1, 5)), ((0, 2), (None, 5)), ((0, None), (0, 0))):
                self.raises(Unfit(), function, barred, low, high, 0)
            for out in (-1, 2, 9):
                self.raises(NoOut(out), function, barred, (1, 1), (0, 0), out)
                self.raises(NoOut(out), function, TORN, (1, 1), (0, 0), out)
        for function in functions:
            for house in (TORN, ASTRIDE):
                self.raises(Unfit(), function, house, LOW, HIGH, 0)
        # The other OUT is of one mind.
        self.told(LOW, own.late_corner, ASTRIDE, LOW, HIGH, 1)

    def test_ticks_had(self):
        self.told((3, 4), own.ticks_had, barred, LOW, HIGH, 0)
        self.told(True, own.may_be_silent, barred, LOW, HIGH, 0)
        self.told((3, 4, 5, 6), own.ticks_had, barred, LOW, HIGH, 1)
        self.told(False, own.may_be_silent, barred, LOW, HIGH, 1)
        self.told((), own.ticks_had, tower, (0, 0, 0), (1, 1, 1), 1)
        self.told(True, own.may_be_silent, tower, (0, 0, 0), (1, 1, 1), 1)
        # Of two minds they are told, too; ticks between need not be had.
        self.told((2, 3), own.ticks_had, TORN, (0, 2), (1, 9), 0)
        gap = bare_house(2, [(0, "any", (0,), 1, (1,), 0, 0, 0), (0, "any", (0,), 9, (), 0, 0, 0)], ("bell",))
        self.told((1, 9), own.ticks_had, gap, (0, 0), (0, 4), 0)

    def test_too_many(self):
        low = (0, 0)
        self.told(tuple(range(3, 43)), own.ticks_had, inn, low, (39, 99), 0)
        for function in (own.ticks_had, own.may_be_silent):
            self.raises(TooMany(), function, barred, low, (39, 100), 0)
            self.raises(TooMany(), function, barred, low, (0, 4000), 0)
            self.raises(TooMany(), function, tower, (0, 0, None), (63, 63, None), 1)
        self.told(False, own.may_be_silent, barred, low, (0, 3999), 1)
        # ZONES that are never knocked count once.
        self.told(False, own.may_be_silent, inn, (0, None), (3999, None), 0)


class Gaps(StyledCase):
    def test_silent_gaps(self):
        self.told([(None, 3)], own.silent_gaps, barred, 0, 0, 1)
        self.told([], own.silent_gaps, barred, 1, 0, 1)
        self.told([(-3, None)], own.silent_gaps, barred, 0, 1, 0)
        self.told([(None, None)], own.silent_gaps, tower, 1, 0, 1)
        self.told([(None, None)], own.silent_gaps, inn[:2] + ((),) + inn[3:], 0, 0, 1)
        # Others never knocked: OUT 2 waits for ZONE 2, too.
        self.told([], own.silent_gaps, tower, 2, 0, 1)
        # Silent in the middle: barred by each other within two ticks.
        lines = [(0, "any", (0,), 2, (1,), 0, 0, 0), (0, "any", (1,), 3, (0,), 0, 0, 0)]
        self.told([(-3, 2)], own.silent_gaps, bare_house(2, lines, ("bell",)), 0, 0, 1)
        # Two stretches.
        lines = [(0, "any", (0,), 1, (1,), 0, 0, 0), (0, "any", (0,), 5, (1,), 1, 0, 0), (0, "all", (0, 1), 0, (2,), 0, 0, 0)]
        self.told([], own.silent_gaps, bare_house(3, lines, ("bell", "door")), 0, 0, 1)

    def test_errors(self):
        for out in (-1, 2, 9):
            self.raises(NoOut(out), own.silent_gaps, barred, out, 9, 9)
        for number in (-1, 2, 9):
            self.raises(NoZone(number), own.silent_gaps, barred, 0, number, 99)
            self.raises(NoZone(number), own.silent_gaps, barred, 0, 1, number)
        self.raises(Unfit(), own.silent_gaps, barred, 0, 1, 1)
        self.raises(Unfit(), own.silent_gaps, barred, 1, 0, 0)


class Answers(StyledCase):
    def test_answers(self):
        self.told(
            [
                (("barred", "on"), (0, 0)), (("idle", "idle"), (None, None)), (("idle", "on"), (None, 0)),
                (("on", "idle"), (0, None)), (("on", "on"), (0, 4)),
            ],
            own.answers, barred,
        )
        self.told([((), ())], own.answers, bare)
        self.told([((), (0, 0))], own.answers, inn[:2] + ((),) + inn[3:])
        self.told([(("idle",), (None,)), (("on",), (0,))], own.answers, bare_house(1, [(0, "any", (0,), 9, (), 0, 0, 0)], ("bell",)))

    def test_later_if_earlier(self):
        self.told(((0, 4), (0, 3)), own.later_if_earlier, barred, 0)
        self.told(None, own.later_if_earlier, barred, 1)
        # The first tick of all ZONES is 1: one ZONE bars itself and another one.
        lines = [(0, "any", (0,), 0, (1,), 0, 0, 0)]
        self.told(((0, 1), (0, 0)), own.later_if_earlier, bare_house(2, lines, ("bell",)), 0)
        lines = [(0, "any", (1,), 3, (0,), 0, 0, 0), (0, "any", (1,), 9, (), 0, 0, 0)]
        self.told(((4, 0), (3, 0)), own.later_if_earlier, bare_house(2, lines, ("bell",)), 0)

    def test_too_many(self):
        for zones, wait, fine in ((1, 20, True), (2, 20, True), (3, 4, True), (3, 5, False), (3, 20, False)):
            house = bare_house(zones, [(0, "any", (0,), wait, (), 0, 0, 0)], ("bell",))
            if fine:
                self.assertEqual([answer for answer, _ in own.answers(house)], [("idle",), ("on",)])
                self.assertIsNone(own.later_if_earlier(house, 0))
                continue
            self.raises(TooMany(), own.answers, house)
            self.raises(TooMany(), own.later_if_earlier, house, 0)
            self.raises(NoOut(1), own.later_if_earlier, house, 1)
        # ((z - 1) * (reach + 1) + 3) ** z, reach one more than the wait: 63 ** 2 is 3,969, 64 ** 2 is 4,096.
        self.assertEqual(len(own.answers(bare_house(2, [(0, "any", (0,), 58, (), 0, 0, 0)], ("bell",)))), 2)
        self.raises(TooMany(), own.answers, bare_house(2, [(0, "any", (0,), 59, (), 0, 0, 0)], ("bell",)))
        self.assertEqual(len(own.answers(bare_house(3, [(0, "any", (0,), 4, (1,), 0, 0, 0)], ("bell",)))), 3)

    def test_is_later_pair(self):
        good = [((0, 4), (0, 3)), ((1, 9), (0, 2)), ((1, None), (1, 4)), ((0, None), (0, 0)), ((3, 9), (3, 5))]
        bad = [
            ((0, 3), (0, 4)), ((0, 4), (0, 4)), ((0, 4), (1, 4)), ((0, 4), (None, 3)), ((0, 9), (0, 5)), ((None, 4), (None, 3)),
            ((0, 4),), ((0, 4), (0, 3), (0, 2)), [(0, 4), (0, 3)], ([0, 4], [0, 3]), ((0, 4), (0,)), ((0, 4), (0, 3, 1)),
            ((0, 4), (False, 3)), ((0, 4), (0, -3)), ((0, 4), (0, "3")), (None, None),
        ]
        self.things(good, bad, own.is_later_pair, barred, 0)
        self.things([], good + bad, own.is_later_pair, barred, 1)
        for out in (-1, 2, 9):
            self.raises(NoOut(out), own.is_later_pair, barred, out, None)
            self.raises(NoOut(out), own.later_if_earlier, barred, out)


class Begins(StyledCase):
    BEGUN = ((A, 0), (B, 2))

    def test_knocked_by(self):
        self.told((0, None), own.knocked_by, barred, self.BEGUN)
        self.told((2, 3), own.knocked_by, barred, ((B, 2), (D, 3)))
        self.told((None, None), own.knocked_by, barred, ())
        self.told((), own.knocked_by, bare, ())
        # A stay does not matter to who speaks for good.
        self.told((None, 5), own.knocked_by, loft, (((1, 0), 5),))

    def test_dirty_rows(self):
        self.told(((A, 3), (B, 3), (C, None), (D, None)), own.dirty_rows, barred, self.BEGUN, 0)
        self.told(((A, None), (B, None), (C, 3), (D, 3)), own.dirty_rows, barred, self.BEGUN, 1)
        self.told((), own.dirty_rows, bare[:3] + (("bell",), 1), (), 0)
        for out in (-1, 2, 9):
            self.raises(NoOut(out), own.dirty_rows, barred, self.BEGUN, out)


class ForAll(unittest.TestCase):
    def samples(self, seed, many, waits=3):
        dice = random.Random(seed)
        for _ in range(many):
            zones = dice.choice((1, 2, 2, 3))
            yield dice, bare_house(zones, some_lines(dice, zones, 4, waits, 2), ("bell", "door"))

    def test_between(self):
        fit = gone = silent = 0
        for dice, house in self.samples(91, 1200):
            zones = range(len(house[1]))
            low = tuple(dice.choice((None, 0, 1, 3, 5)) for _ in zones)
            high = tuple(None if tick is None else tick + dice.choice((0, 1, 3)) for tick in low)
            two = own.two_minded(house)
            by_words = [
                (out, zone) for out in (0, 1) for zone in zones
                if any(line[5] == out and zone in line[2] for line in house[2])
                and any(line[5] == out and zone in line[4] for line in house[2])
            ]
            self.assertEqual(two, tuple(by_words))
            for out in (0, 1):
                ticks = [oracle.outs_by_times(house, times)[out] for times in between(low, high)]
                self.assertEqual(own.ticks_had(house, low, high, out), tuple(sorted(set(ticks) - {None})))
                self.assertEqual(own.may_be_silent(house, low, high, out), None in ticks)
                if out in [pair[0] for pair in two]:
                    self.assertRaises(Unfit, own.latest_on, house, low, high, out)
                    gone += 1
                    continue
                fit += 1
                latest, earliest = max(ticks, key=oracle.later), min(ticks, key=oracle.later)
                silent += None in ticks and earliest is not None
                self.assertEqual(own.latest_on(house, low, high, out), latest)
                self.assertEqual(own.earliest_on(house, low, high, out), earliest)
                for corner, tick in ((own.late_corner, latest), (own.early_corner, earliest)):
                    times = corner(house, low, high, out)
                    self.assertIn(times, list(between(low, high)))
                    self.assertEqual(oracle.outs_by_times(house, times)[out], tick)
        self.assertGreater(min(fit, gone), 50)
        self.assertGreater(silent, 10)

    def test_silent_gaps(self):
        kinds = set()
        for dice, house in self.samples(92, 300):
            zones = range(len(house[1]))
            for out, number, other in itertools.product((0, 1), zones, zones):
                if number == other:
                    continue
                silent = []
                for gap in range(-30, 31):
                    times = [None for _ in zones]
                    times[number], times[other] = 40, 40 + gap
                    if oracle.outs_by_times(house, times)[out] is None:
                        silent.append(gap)
                told = own.silent_gaps(house, out, number, other)
                self.assertEqual(told, sorted(told, key=lambda row: -99 if row[0] is None else row[0]))
                found = [
                    gap for gap in range(-30, 31)
                    if any((a is None or a <= gap) and (b is None or gap <= b) for a, b in told)
                ]
                self.assertEqual(found, silent)
                for one, two in zip(told, told[1:]):
                    self.assertGreater(two[0], one[1] + 1)
                kinds.add(tuple((a is None, b is None) for a, b in told))
        self.assertGreater(len(kinds), 4)

    def test_answers_and_pairs(self):
        found = later = 0
        for dice, house in self.samples(93, 40, 2):
            zones = len(house[1])
            last = (zones - 1) * (max([line[3] for line in house[2]], default=0) + 2) + (2 if zones == 3 else 4)
            rows = sorted(oracle.all_times(zones, last), key=key)
            least = {}
            for times in rows:
                answer = tuple(state for state, _ in oracle.lines_by_times(house, times))
                least.setdefault(answer, times)
            self.assertEqual(own.answers(house), sorted(least.items()))
            found += len(least)
            outs = {times: oracle.outs_by_times(house, times) for times in rows}
            for out in (0, 1):
                pair = None
                for slow in rows:
                    for zone in range(zones):
                        if pair is None and slow[zone]:
                            fast = slow[:zone] + (slow[zone] - 1,) + slow[zone + 1:]
                            if oracle.later(outs[fast][out]) > oracle.later(outs[slow][out]):
                                pair = (slow, fast)
                self.assertEqual(own.later_if_earlier(house, out), pair)
                if pair:
                    later += 1
                    self.assertTrue(own.is_later_pair(house, out, pair))
                    self.assertFalse(own.is_later_pair(house, out, pair[::-1]))
                for _ in range(30):
                    slow, fast = dice.choice(rows), dice.choice(rows)
                    so = (
                        all(oracle.later(a) <= oracle.later(b) for a, b in zip(fast, slow))
                        and oracle.later(outs[fast][out]) > oracle.later(outs[slow][out])
                    )
                    self.assertEqual(own.is_later_pair(house, out, (slow, fast)), so)
        self.assertGreater(min(found, later), 5)

    def test_least_pair_begins_at_one(self):
        """The ZONE that is earlier may be the first of all: then slow begins at tick 1."""
        lines = [(0, "any", (0,), 0, (1,), 0, 0, 0), (0, "all", (0, 1), 2, (), 0, 0, 0)]
        house = bare_house(2, lines, ("bell",))
        rows = sorted(oracle.all_times(2, 9), key=key)
        outs = {times: oracle.outs_by_times(house, times)[0] for times in rows}
        pairs = [
            (slow, slow[:zone] + (slow[zone] - 1,) + slow[zone + 1:])
            for slow in rows for zone in (0, 1) if slow[zone]
        ]
        fit = [pair for pair in pairs if oracle.later(outs[pair[1]]) > oracle.later(outs[pair[0]])]
        self.assertEqual(own.later_if_earlier(house, 0), fit[0] if fit else None)

    def test_knocks_and_dirt(self):
        dice = random.Random(94)
        for _ in range(200):
            house = some_house(dice)
            spots = oracle.spots_of_feelers(house)
            begins = some_begins(dice, spots, 6)
            times = oracle.first_on(house, begins, 8)[0]
            self.assertEqual(own.knocked_by(house, begins), times)
            for out in range(len(house[3])):
                rows = []
                for spot in spots:
                    dirty = tuple(sorted({**dict(begins), spot: 0}.items()))
                    rows.append((spot, oracle.outs_by_times(house, oracle.first_on(house, dirty, 8)[0])[out]))
                self.assertEqual(own.dirty_rows(house, begins, out), tuple(rows))


class Greatest(unittest.TestCase):
    def test_waits_of_twenty(self):
        lines = [(0, "any", (0,), 20, (1,), 0, 0, 0), (0, "all", (0, 1), 7, (), 1, 0, 0), (0, "any", (1,), 20, (0,), 0, 0, 0)]
        house = bare_house(2, lines, ("bell", "door"))
        self.assertEqual(own.silent_gaps(house, 0, 0, 1), [(-20, 20)])
        self.assertEqual(own.later_if_earlier(house, 0), ((0, 21), (0, 20)))
        self.assertEqual(len(own.answers(house)), 6)
