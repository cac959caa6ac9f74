"""Between fires [11]."""

import itertools
import random
import unittest

from secondknock import within as own
from secondknock.errors import CanNot, NoOut, NoRing, NoZone, Unfit
from secondknock.houses import are_begins, is_house
from tests import oracle
from tests.samples import bare, barred, crowd, inn, keep, loft, risen, some_house, tower
from tests.styles import StyledCase

WAYS = ((0, 1, 4), (1, 2, 2), (2, 0, 7))
BLAZE = (3, WAYS, 0, 0)
QUICK, SLOW = (3, WAYS, 2, 0), (3, ((0, 1, 6), (1, 2, 3), (2, 0, 9)), 2, 1)


def comes_on(house, fire):
    """For each OUT when it comes on, by the words of [3]."""
    places, ways, start, tick = fire
    ticks = oracle.arrivals(places, ways, start)
    begins = tuple(
        (spot, tick + ticks[place])
        for spot, place in places_of(house)
        if place < places and ticks[place] is not None
    )
    return oracle.risen_ticks(house, begins)[2]


def places_of(house):
    return [(spot, house[0][spot[0]][1][spot[1]][1]) for spot in oracle.spots_of_feelers(house)]


def fires_between(one, other):
    """All FIRES between two with the same ways."""
    ranges = [range(low, high + 1) for (_, _, low), (_, _, high) in zip(one[1], other[1])]
    for tick in range(one[3], other[3] + 1):
        for told in itertools.product(*ranges):
            yield (one[0], tuple(way[:2] + (ticks,) for way, ticks in zip(one[1], told)), one[2], tick)


def some_ways(dice, places, most, longest):
    pairs = [(one, other) for one in range(places) for other in range(places) if one != other]
    some = sorted(dice.sample(pairs, min(len(pairs), dice.randint(0, most))))
    return tuple(pair + (dice.randint(1, longest),) for pair in some)


class Fires(StyledCase):
    def test_is_fire(self):
        good = [
            BLAZE, QUICK, SLOW, (1, (), 0, 0), (2, ((0, 1, 1), (1, 0, 10 ** 30)), 1, 10 ** 30), (10 ** 9, (), 77, 3),
        ]
        bad = [
            (3, WAYS, 3, 0), (3, WAYS, -1, 0), (3, WAYS, 0, -1), (3, WAYS, True, 0), (3, WAYS, 0, True), (3, WAYS, 0, None),
            (True, (), 0, 0), (0, (), 0, 0), (-1, (), 0, 0), (2, WAYS, 0, 0), (3, WAYS[::-1], 0, 0), (3, list(WAYS), 0, 0),
            (3, ((0, 0, 1),), 0, 0), (3, ((0, 1, 0),), 0, 0), (3, ((0, 1, True),), 0, 0), (3, ((0, 1, 2), (0, 1, 3)), 0, 0),
            (3, ((0, 1, 2), (0, 1, 2)), 0, 0), (3, ([0, 1, 2],), 0, 0), (3, ((0, 1),), 0, 0), (3, ((0, 1, 2, 3),), 0, 0),
            (3, ((0, None, 2),), 0, 0), (3, ((False, 1, 2),), 0, 0), (3, WAYS, 0), (3, WAYS, 0, 0, 0), [3, WAYS, 0, 0],
            (3, ((0, 1, "2"),), 0, 0), ("3", (), 0, 0), (3, None, 0, 0), (3, (None,), 0, 0), (3, WAYS, (0,), 0),
        ]
        self.things(good, bad, own.is_fire)

    def test_arrivals(self):
        self.told((0, 4, 6), own.arrivals, BLAZE)
        self.told((8, 12, 1), own.arrivals, (3, ((2, 0, 7), (0, 1, 4)), 2, 1))
        self.told((3,), own.arrivals, (1, (), 0, 3))
        self.told((None, 5, None), own.arrivals, (3, WAYS[:1], 1, 5))
        # The way round is shorter.
        self.told((0, 3, 2), own.arrivals, (3, ((0, 1, 9), (0, 2, 2), (2, 1, 1)), 0, 0))

    def test_fire_begins(self):
        self.told((((0, 0), 0), ((0, 2), 4), ((0, 3), 6), ((0, 6), 0)), own.fire_begins, inn, BLAZE)
        # Of any HOUSE; a feeler's place that the FIRE does not have is never reached.
        self.told((((0, 0), 2), ((0, 6), 2)), own.fire_begins, barred, (2, (), 0, 2))
        self.told((((0, 0), 1), ((0, 2), 5), ((0, 6), 1), ((1, 0), 3)), own.fire_begins, self.wide(), self.far())
        self.told((), own.fire_begins, bare, BLAZE)

    def wide(self):
        return ((inn[0][0], (0, (("feel", 3), ("feel", 4)))),) + inn[1:]

    def far(self):
        return (4, ((0, 1, 4), (0, 3, 2)), 0, 1)

    def test_no_faster(self):
        self.told(True, own.no_faster, QUICK, SLOW)
        self.told(True, own.no_faster, QUICK, QUICK)
        self.told(False, own.no_faster, SLOW, QUICK)
        for other in (
            (4, SLOW[1], 2, 1), (3, SLOW[1], 1, 1), (3, SLOW[1][:2], 2, 1), (3, ((0, 1, 6), (0, 2, 3), (2, 0, 9)), 2, 1),
            (3, ((0, 1, 6), (1, 2, 1), (2, 0, 9)), 2, 1),
        ):
            self.told(False, own.no_faster, QUICK, other)
        self.told(False, own.no_faster, SLOW, (3, SLOW[1], 2, 0))

    def test_is_between(self):
        middle = (3, ((0, 1, 5), (1, 2, 2), (2, 0, 9)), 2, 0)
        bad = [
            (3, ((0, 1, 5), (1, 2, 2), (2, 0, 10)), 2, 0), (3, ((0, 1, 5), (1, 2, 2), (2, 0, 9)), 2, 2),
            (3, ((0, 1, 3), (1, 2, 2), (2, 0, 9)), 2, 0), list(middle), BLAZE, (3, ((0, 1, 5), (1, 2, 2)), 2, 0),
            (3, ((0, 1, 5), (1, 2, 2), (2, 0, 9)), 2, True),
        ]
        self.things([QUICK, SLOW, middle], bad, own.is_between, QUICK, SLOW)
        self.things([], [QUICK, SLOW, middle], own.is_between, SLOW, QUICK)
        self.things([QUICK], [SLOW], own.is_between, QUICK, QUICK)


class ComingOn(StyledCase):
    def test_on_by_fire(self):
        self.told(3, own.on_by_fire, inn, BLAZE, 0)
        self.told(6, own.on_by_fire, inn, BLAZE, 1)
        self.told(None, own.on_by_fire, inn, (3, (), 2, 4), 0)
        # Without LINES; of FORMS too great to be put together nothing is said here.
        self.told(None, own.on_by_fire, tower, BLAZE, 1)
        self.told(7, own.on_by_fire, crowd, (6, (), 1, 6), 0)

    def test_span_by_fires(self):
        self.told((10, 13), own.span_by_fires, inn, QUICK, SLOW, 0)
        self.told((10, 10), own.span_by_fires, inn, QUICK, QUICK, 0)
        self.told((None, None), own.span_by_fires, tower, QUICK, SLOW, 1)
        self.told((None, None), own.span_by_fires, inn, (3, (), 2, 0), (3, (), 2, 9), 0)

    def test_fire_for(self):
        for tick in (10, 11, 12, 13):
            told = own.fire_for(inn, QUICK, SLOW, 0, tick)
            self.told(told, own.fire_for, inn, QUICK, SLOW, 0, tick)
            self.assertTrue(own.is_between(QUICK, SLOW, told))
            self.assertEqual(own.on_by_fire(inn, told, 0), tick)
        for tick in (9, 14, 0, -1, 10 ** 30):
            self.raises(CanNot(), own.fire_for, inn, QUICK, SLOW, 0, tick)
        self.raises(CanNot(), own.fire_for, tower, QUICK, SLOW, 1, 5)
        self.told(QUICK, own.fire_for, inn, QUICK, QUICK, 0, 10)

    def test_starts(self):
        self.told((10, (2,)), own.latest_starts, inn, 3, WAYS, 0)
        self.told((9, (2,)), own.latest_starts, inn, 3, WAYS, 1)
        self.told((None, (0, 1, 2)), own.latest_starts, tower, 3, WAYS, 1)
        # None is later than all: the start without ways.
        self.told((None, (2,)), own.latest_starts, inn, 3, WAYS[:2], 0)
        self.told((3, (0, 1)), own.latest_starts, inn, 2, (), 0)
        self.told((0, 1), own.starts_within, inn, 3, WAYS, 0, 3)
        self.told((), own.starts_within, inn, 3, WAYS, 0, 2)
        self.told((0, 1, 2), own.starts_within, inn, 3, WAYS, 0, 10)
        self.told((0, 1), own.starts_within, inn, 3, WAYS[:2], 0, 200)

    def test_with_feeler(self):
        longer = ((0, inn[0][0][1] + (("feel", 2),)),)
        zones = ((((0, 0), (0, 2), (0, 7)), 1, None), inn[1][1])
        self.told((longer, zones) + inn[2:], own.with_feeler, inn, 0, 2, 0)
        # Of any HOUSE; ahead of SPOTS of later RINGS; at a place that is nowhere yet.
        told = own.with_feeler(loft, 0, 9, 0)
        self.assertTrue(is_house(told))
        self.assertEqual(told[1][0], (((0, 0), (0, 7)), 1, None))
        two = ((inn[0][0], (0, (("feel", 3), ("cut",)))), ((((1, 0),), 1, None),), (), (), 1)
        self.assertEqual(own.with_feeler(two, 0, 1, 0)[1], ((((0, 7), (1, 0)), 1, None),))
        self.assertEqual(own.with_feeler(barred, 0, 1, 1)[1][1][0][-1], (0, 7))

    def test_fewest_more(self):
        self.told((2,), own.fewest_more, inn, 3, WAYS, 0, 3, 0, 0)
        self.told(None, own.fewest_more, inn, 3, WAYS, 0, 2, 0, 0)
        self.told((), own.fewest_more, inn, 3, WAYS, 0, 10, 0, 0)
        # Two where one is not enough: each place burns for itself.
        self.told((0, 2, 3), own.fewest_more, self.lone(), 4, (), 0, 0, 0, 0)
        self.told(None, own.fewest_more, tower, 3, WAYS, 1, 200, 0, 0)

    def lone(self):
        return (((0, (("feel", 1),)),), ((((0, 0),), 1, None),), ((0, "any", (0,), 0, (), 0, 0, 0),), ("bell",), 1)


class Errors(StyledCase):
    def test_unfit_comes_first(self):
        for house in (barred, loft, keep):
            for function, args in (
                (own.on_by_fire, (BLAZE, 9)), (own.span_by_fires, (SLOW, QUICK, 9)), (own.fire_for, (SLOW, QUICK, 9, 1)),
                (own.latest_starts, (3, WAYS, 9)), (own.starts_within, (3, WAYS, 9, 1)),
                (own.fewest_more, (3, WAYS, 9, 1, 9, 9)),
            ):
                self.raises(Unfit(), function, house, *args)

    def test_what_is_not_there(self):
        for number in (-1, 3, 99):
            self.raises(NoOut(number), own.on_by_fire, tower, BLAZE, number)
            self.raises(NoOut(number), own.span_by_fires, tower, SLOW, QUICK, number)
            self.raises(NoOut(number), own.fire_for, tower, SLOW, QUICK, number, 1)
            self.raises(NoOut(number), own.latest_starts, tower, 3, WAYS, number)
            self.raises(NoOut(number), own.starts_within, tower, 3, WAYS, number, 1)
            self.raises(NoOut(number), own.fewest_more, tower, 3, WAYS, number, 1, 0, 0)
            self.raises(NoRing(number), own.with_feeler, loft, number, 1, 99)
            self.raises(NoRing(number), own.fewest_more, tower, 3, WAYS, 99, 1, number, 99)
            self.raises(NoZone(number), own.with_feeler, loft, 0, 1, number)
            self.raises(NoZone(number), own.fewest_more, tower, 3, WAYS, 99, 1, 0, number)

    def test_unfit_behind_them(self):
        self.raises(Unfit(), own.span_by_fires, inn, SLOW, QUICK, 0)
        self.raises(Unfit(), own.fire_for, inn, SLOW, QUICK, 0, 10)
        self.raises(Unfit(), own.fire_for, tower, SLOW, QUICK, 1, 10)
        self.raises(Unfit(), own.span_by_fires, inn, QUICK, BLAZE, 0)
        self.raises(Unfit(), own.with_feeler, loft, 0, 1, 1)
        self.raises(Unfit(), own.with_feeler, tower, 1, 1, 0)
        self.raises(Unfit(), own.fewest_more, tower, 3, WAYS, 99, 1, 0, 1)


class ForAll(unittest.TestCase):
    def houses(self, seed, many, spots=6):
        dice = random.Random(seed)
        while many:
            house = risen(some_house(dice))
            if len(oracle.spots_of_feelers(house)) <= spots and house[2]:
                many -= 1
                yield dice, house

    def test_arrivals_and_begins(self):
        dice = random.Random(51)
        for _ in range(300):
            places = dice.randint(1, 5)
            fire = (places, some_ways(dice, places, 10, 5), dice.randrange(places), dice.randint(0, 9))
            self.assertTrue(own.is_fire(fire))
            least = oracle.arrivals(*fire[:3])
            told = tuple(None if ticks is None else fire[3] + ticks for ticks in least)
            self.assertEqual(own.arrivals(fire), told)
            for house in (inn, loft, tower, keep):
                begins = own.fire_begins(house, fire)
                self.assertTrue(are_begins(house, begins))
                some = [(spot, told[place]) for spot, place in places_of(house) if place < places]
                self.assertEqual(begins, tuple(pair for pair in some if pair[1] is not None))

    def test_all_fires_between(self):
        spans = 0
        for dice, house in self.houses(52, 60):
            places = dice.randint(1, 4)
            one = (places, some_ways(dice, places, 4, 4), dice.randrange(places), dice.randint(0, 2))
            slower = tuple(way[:2] + (way[2] + dice.randint(0, 2),) for way in one[1])
            other = (places, slower, one[2], one[3] + dice.randint(0, 2))
            fires = list(fires_between(one, other))
            rows = [comes_on(house, fire) for fire in fires]
            for fire in fires[:5]:
                self.assertTrue(own.is_between(one, other, fire))
            for out in range(len(house[3])):
                ticks = {row[out] for row in rows}
                for fire, row in list(zip(fires, rows))[:7]:
                    self.assertEqual(own.on_by_fire(house, fire, out), row[out])
                if None in ticks:
                    self.assertEqual(ticks, {None})
                    self.assertEqual(own.span_by_fires(house, one, other, out), (None, None))
                    self.assertRaises(CanNot, own.fire_for, house, one, other, out, 3)
                    continue
                low, high = own.span_by_fires(house, one, other, out)
                self.assertEqual(ticks, set(range(low, high + 1)))
                spans += low < high
                for tick in range(low - 1, high + 2):
                    if not low <= tick <= high:
                        self.assertRaises(CanNot, own.fire_for, house, one, other, out, tick)
                        continue
                    fire = own.fire_for(house, one, other, out, tick)
                    self.assertIn(fire, fires)
                    self.assertEqual(comes_on(house, fire)[out], tick)
        self.assertGreater(spans, 10)

    def test_starts_and_fewest_more(self):
        seen = set()
        for dice, house in self.houses(53, 80, 4):
            places = dice.randint(1, 4)
            ways = some_ways(dice, places, 5, 4)
            rows = [comes_on(house, (places, ways, start, 0)) for start in range(places)]
            for out in range(len(house[3])):
                told = [row[out] for row in rows]
                latest = max(told, key=oracle.later)
                self.assertEqual(
                    own.latest_starts(house, places, ways, out), (latest, tuple(p for p in range(places) if told[p] == latest)))
                for most in range(6):
                    some = tuple(p for p in range(places) if told[p] is not None and told[p] <= most)
                    self.assertEqual(own.starts_within(house, places, ways, out, most), some)
            out, most = dice.randrange(len(house[3])), dice.randint(0, 5)
            number = dice.randrange(len(house[1]))
            panel = house[0][house[1][number][0][0][0]][0]
            ring = [at for at, own_ring in enumerate(house[0]) if own_ring[0] == panel][-1]
            fit = [
                row for row in oracle.all_subsets(range(places))
                if all(
                    (tick is not None and tick <= most)
                    for tick in (
                        comes_on(self.more(house, ring, row, number), (places, ways, start, 0))[out]
                        for start in range(places)
                    )
                )
            ]
            least = min(fit, key=lambda row: (len(row), row), default=None)
            self.assertEqual(own.fewest_more(house, places, ways, out, most, ring, number), least)
            seen.add(None if least is None else len(least))
        self.assertLessEqual({None, 0, 1, 2}, seen)

    def more(self, house, ring, row, number):
        """The HOUSE with these feelers more, at end B of a RING."""
        rings, zones = list(house[0]), list(house[1])
        panel, pieces = rings[ring]
        rings[ring] = (panel, pieces + tuple(("feel", place) for place in row))
        spots, knocks, stay = zones[number]
        new = tuple((ring, len(pieces) + at) for at in range(len(row)))
        zones[number] = (tuple(sorted(spots + new)), knocks, stay)
        return (tuple(rings), tuple(zones)) + house[2:]

    def test_more_by_one_by_one(self):
        for house, ring, number in ((inn, 0, 1), (tower, 1, 1), (loft, 1, 1)):
            told = own.with_feeler(own.with_feeler(house, ring, 1, number), ring, 4, number)
            self.assertEqual(told, self.more(house, ring, (1, 4), number))
            self.assertTrue(is_house(told))


class Greatest(unittest.TestCase):
    def test_six_places_and_ten_ways(self):
        dice = random.Random(54)
        ways = tuple(sorted({(at % 6, (at * at + 1 + at // 6) % 6): 0 for at in range(20)}))
        ways = tuple(pair + (dice.randint(1, 20),) for pair in ways if pair[0] != pair[1])[:10]
        one = (6, ways, 0, 0)
        other = (6, tuple(way[:2] + (20,) for way in ways), 0, 200)
        self.assertTrue(own.is_fire(one) and own.no_faster(one, other))
        low, high = own.span_by_fires(crowd, one, other, 0)
        for tick in (low, (low + high) // 2, high - 1, high):
            fire = own.fire_for(crowd, one, other, 0, tick)
            self.assertTrue(own.is_between(one, other, fire))
            self.assertEqual(own.on_by_fire(crowd, fire, 0), tick)
        most = own.latest_starts(crowd, 6, ways, 0)[0]
        told = own.fewest_more(crowd, 6, ways, 0, 1, 0, 0)
        self.assertTrue(told is None or most is None or most > 1 or told == ())
