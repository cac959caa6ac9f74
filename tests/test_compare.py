"""FOR ALL knock ticks [14]."""

import itertools
import random
import unittest

from secondknock import compare as own
from secondknock.errors import NoLine, NoOut, NoZone, TooMany
from tests import oracle
from tests.samples import bare, bare_house, barred, inn, keep, loft, some_lines, tower
from tests.styles import StyledCase

TWIN, FAR = ("apart", 0, 1), ("ahead", 0, 1, 2)
# A ZONE that is in zones and in unless; one LINE of it alone.
TORN = inn[:2] + (((0, "any", (0, 1), 2, (1,), 0, 0, 0),),) + inn[3:]
# Twelve CASES each LINE: too many WAYS.
CROSS = bare_house(3, [(0, "any", (0, 1, 2), 3, (0, 1, 2), out, 0, 0) for out in (0, 1, 0, 1)], ("bell", "door", "door"))
BROKEN = (("never", 0), ("sure", 0, (0,)), ("within", 0, 0, 2), FAR, TWIN)


def keeps_by_words(house, pledge, times):
    outs = oracle.outs_by_times(house, times)
    word, on = pledge[0], outs[pledge[1]]
    if word == "never":
        return on is None
    if word == "sure":
        return on is not None or any(times[zone] is None for zone in pledge[2])
    if word == "within":
        tick = times[pledge[2]]
        return tick is None or (on is not None and on <= tick + pledge[3])
    other = outs[pledge[2]]
    if word == "ahead":
        return other is None or (on is not None and on <= other - pledge[3])
    return on is None or other is None


def ways_by_words(house, pledge):
    """All WAYS, each triple that can be told being asked whether it is one."""
    _, zones, lines, _, _ = house
    word, out = pledge[0], pledge[1]
    found = []
    for known in oracle.all_subsets(range(len(zones))):
        lists = []
        for _, when, called, _, unless, _, _, _ in lines:
            there = [zone for zone in called if zone in known]
            begins = there and (when == "any" or len(there) == len(called))
            bars = [None] + [zone for zone in unless if zone in known]
            lists.append([(zone, bar) for zone in there for bar in bars] if begins else [None])
        for cases in itertools.product(*lists):
            on = [number for number, case in enumerate(cases) if case is not None and case[1] is None]
            of = [[number for number in on if lines[number][5] == own_out] for own_out in range(len(house[3]))]
            picks = [()]
            if word == "never":
                picks = [(number,) for number in of[out]]
            if word == "ahead":
                picks = [(number,) for number in of[pledge[2]]]
            if word == "apart":
                picks = list(itertools.product(of[out], of[pledge[2]]))
            if word == "sure" and (of[out] or not set(pledge[2]) <= set(known)):
                picks = []
            if word == "within" and pledge[2] not in known:
                picks = []
            found += [(known, cases, own_picks) for own_picks in picks]
    return sorted(found, key=lambda way: (
        way[0], [(-1, -1) if case is None else (case[0], -1 if case[1] is None else case[1]) for case in way[1]], way[2]))


def allows(bounds, times):
    return all(times[x] <= times[y] + n for x, y, n in bounds)


def some_pledge(dice, zones, outs):
    out, other = dice.sample(range(outs), 2)
    return dice.choice((
        ("never", out), ("sure", out, tuple(sorted(dice.sample(range(zones), dice.randint(0, zones))))),
        ("within", out, dice.randrange(zones), dice.randint(0, 4)), ("ahead", out, other, dice.randint(0, 3)),
        ("apart", out, other),
    ))


class Ordinary(StyledCase):
    def test_lines_and_outs(self):
        self.told((("barred", 4), ("on", 5)), own.lines_by, barred, (1, 4))
        self.told((("on", 4), ("on", 6)), own.lines_by, barred, (1, 5))
        self.told((("idle", None), ("on", 6)), own.lines_by, barred, (None, 5))
        self.told((("idle", None), ("idle", None)), own.lines_by, barred, (None, None))
        self.told((), own.lines_by, bare, ())
        self.told((4, 6), own.outs_by, barred, (1, 5))
        self.told((None, 5), own.outs_by, barred, (1, 4))
        self.told((4, 9), own.outs_by, inn, (1, 7))
        self.told((4, None), own.outs_by, inn, (1, None))
        self.told((3, None, None), own.outs_by, tower, (1, None, None))
        self.told((), own.outs_by, bare, ())
        # Stays and panels count for nothing.
        self.told((None, 6), own.outs_by, loft, (None, 4))
        self.told((4, None), own.outs_by, loft, (4, 4))

    def test_is_pledge(self):
        good = [
            ("never", 0), ("sure", 1, ()), ("sure", 0, (0, 1)), ("within", 0, 1, 0), ("within", 1, 0, 10 ** 30),
            ("ahead", 0, 1, 0), ("ahead", 1, 0, 7), ("apart", 1, 0),
        ]
        bad = [
            ("never",), ("never", 2), ("never", 0, 0), ("never", -1), ("never", True), ("never", (0,)), ["never", 0],
            ("sure", 0), ("sure", 0, (1, 0)), ("sure", 0, (2,)), ("sure", 0, [0]), ("sure", 0, 0), ("sure", 0, (0, 0)),
            ("within", 0, 0), ("within", 0, 2, 1), ("within", 0, 0, -1), ("within", 0, 0, True), ("within", 0, (0,), 1),
            ("ahead", 0, 0, 1), ("ahead", 0, 2, 1), ("ahead", 0, 1, -1), ("ahead", 0, 1), ("ahead", 0, 1, None),
            ("apart", 0, 0), ("apart", 0, 2), ("apart", 0), ("apart", 0, 1, 0), ("apart", 0, True), ("always", 0), ([], 0),
            (0, 0), (None, 0), ("never", None), ("never", "0"),
        ]
        self.things(good, bad, own.is_pledge, inn)
        self.things([], good, own.is_pledge, bare)

    def test_keeps(self):
        for pledge, kept, broken in (
            (("never", 0), (None, 3), (1, None)), (("never", 0), (1, 4), (1, 5)), (("sure", 0, (0,)), (1, 5), (1, 4)),
            (("sure", 0, ()), (1, 5), (None, None)), (("sure", 1, (0, 1)), (None, 4), None),
            (("within", 0, 0, 3), (1, 5), (1, 4)), (("within", 0, 0, 2), (None, 5), (1, 5)), (FAR, (0, 4), (1, 4)),
            (FAR, (0, None), (None, 0)), (TWIN, (3, 4), (0, 5)), (TWIN, (None, 4), None),
        ):
            self.told(True, own.keeps, barred, pledge, kept)
            if broken is not None:
                self.told(False, own.keeps, barred, pledge, broken)

    def test_holds(self):
        for pledge in BROKEN:
            self.told(False, own.holds, barred, pledge)
        self.told(True, own.holds, inn, ("within", 0, 0, 3))
        self.told(False, own.holds, inn, ("within", 0, 0, 2))
        self.told(True, own.holds, inn, ("sure", 1, (0, 1)))
        self.told(False, own.holds, inn, ("sure", 1, (0,)))
        self.told(False, own.holds, inn, ("sure", 0, ()))
        self.told(False, own.holds, inn, ("ahead", 0, 1, 0))
        # An OUT without LINES.
        self.told(True, own.holds, tower, ("never", 1))
        self.told(True, own.holds, tower, ("ahead", 0, 1, 200))
        self.told(False, own.holds, tower, ("ahead", 1, 0, 0))
        self.told(True, own.holds, tower, ("apart", 0, 1))
        # A LINE whose ZONES are never all knocked, as one is barred ahead of each wait: a ZONE barred by itself.
        self.told(False, own.holds, TORN, ("never", 0))
        one = TORN[:2] + (((0, "any", (1,), 2, (1,), 0, 0, 0),),) + TORN[3:]
        self.told(True, own.holds, one, ("never", 0))


class Ways(StyledCase):
    def test_ways_to_break(self):
        self.told([((0, 1), ((0, None), (1, None)), (0, 1))], own.ways_to_break, barred, TWIN)
        # The LINE of each as the PLEDGE names them.
        self.told([((0, 1), ((0, None), (1, None)), (1, 0))], own.ways_to_break, barred, ("apart", 1, 0))
        self.told(
            [((0,), ((0, None), None), (0,)), ((0, 1), ((0, None), (1, None)), (0,))],
            own.ways_to_break, barred, ("never", 0),
        )
        self.told(
            [
                ((), (None, None), ()), ((0, 1), ((0, 1), (1, None)), ()), ((1,), (None, (1, None)), ()),
            ],
            own.ways_to_break, barred, ("sure", 0, ()),
        )
        self.told([((0, 1), ((0, 1), (1, None)), ())], own.ways_to_break, barred, ("sure", 0, (0,)))
        self.told(
            [((0,), ((0, None), None), ()), ((0, 1), ((0, None), (1, None)), ()), ((0, 1), ((0, 1), (1, None)), ())],
            own.ways_to_break, barred, ("within", 0, 0, 3),
        )
        self.told([], own.ways_to_break, tower, ("never", 1))
        self.told([((), (), ())], own.ways_to_break, bare[:3] + (("bell",), 1), ("sure", 0, ()))

    def test_order_of_ways(self):
        told = own.ways_to_break(TORN, ("within", 0, 0, 1))
        rows = [((0,), ((0, None),), ())] + [
            ((0, 1), ((zone, bar),), ()) for zone in (0, 1) for bar in (None, 1)
        ]
        self.assertEqual(told, rows)

    def test_comparisons(self):
        way = ((0, 1), ((0, None), (1, None)), (0, 1))
        self.told(((0, 1, -4),), own.comparisons, barred, TWIN, way)
        self.told(((0, 1, -4), (1, 0, 3)), own.comparisons, barred, FAR, ((0, 1), ((0, None), (1, None)), (1,)))
        self.told(((1, 0, 3),), own.comparisons, barred, FAR, ((0, 1), ((0, 1), (1, None)), (1,)))
        self.told((), own.comparisons, barred, ("sure", 0, ()), ((), (None, None), ()))
        # any, all; a ZONE that bars itself.
        self.told(((0, 1, 0), (1, 0, 2)), own.comparisons, TORN, ("sure", 0, ()), ((0, 1), ((0, 1),), ()))
        self.told(((1, 0, 0), (1, 1, -3)), own.comparisons, TORN, ("never", 0), ((0, 1), ((1, None),), (0,)))
        self.told(((0, 0, 2), (0, 1, 0)), own.comparisons, inn, ("within", 0, 0, 0),
                  ((0, 1), ((0, None), (1, None)), ()))

    def test_loops(self):
        pledge = ("within", 0, 0, 3)
        way = ((0, 1), ((0, None), (1, None)), ())
        told = own.loop_in(inn, pledge, way)
        self.told(told, own.loop_in, inn, pledge, way)
        self.things([told, told * 3], [told[:1] + told, list(told), (list(told[0]),)] if len(told) > 1 else [list(told)],
                    own.is_loop, inn, pledge, way)
        self.told(None, own.loop_in, barred, TWIN, ((0, 1), ((0, None), (1, None)), (0, 1)))
        far = own.ways_to_break(barred, FAR)
        self.things(
            [((0, 1, -4), (1, 0, 3)), ((1, 0, 3), (0, 1, -4)), ((0, 1, -4), (1, 0, 3), (0, 1, -4), (1, 0, 3))],
            [
                ((0, 1, -4),), ((0, 1, -4), (1, 0, 4)), ((0, 1, -4), (0, 1, -4)), ((1, 0, 3),), (), ((0, 1, -4), (1, 0)),
                ([0, 1, -4], (1, 0, 3)), ((False, 1, -4), (1, 0, 3)), ((0, True, -4), (True, 0, 3)), ((0, 1, None), (1, 0, 3)),
                ((0, 1, -4), (1, 0, 3), (1, 0, 3)), (("0", 1, -4), (1, 0, 3)), (((0,), 1, -4), (1, 0, 3)),
            ],
            own.is_loop, barred, FAR, far[0],
        )

    def test_breaking_times(self):
        self.told((0, 4), own.breaking_times, barred, TWIN)
        self.told((0, 0), own.breaking_times, barred, FAR)
        self.told(None, own.breaking_times, inn, ("within", 0, 0, 3))
        # TIMES that are all None.
        self.told((None, None), own.breaking_times, barred, ("sure", 0, ()))
        self.told((0, None), own.breaking_times, barred, ("never", 0))
        self.told((), own.breaking_times, bare[:3] + (("bell",), 1), ("sure", 0, ()))


class Waits(StyledCase):
    def test_lead_of(self):
        self.told(-1, own.lead_of, inn, 0, 1)
        # Of any OUT against one that is never on, all; of one that is never on, none.
        self.told(None, own.lead_of, tower, 0, 1)
        self.told(None, own.lead_of, tower, 1, 0)
        self.told(None, own.lead_of, inn, 1, 0)
        pair = bare_house(2, [(0, "any", (0, 1), 2, (), 0, 0, 0), (0, "all", (0, 1), 9, (), 1, 0, 0)], ("bell", "door"))
        self.told(7, own.lead_of, pair, 0, 1)
        self.told(None, own.lead_of, pair, 1, 0)

    def test_least_wait(self):
        self.told(3, own.least_wait, inn, ("ahead", 0, 1, 0), 1)
        self.told(0, own.least_wait, inn, ("ahead", 0, 1, 0), 0)
        self.told(None, own.least_wait, inn, ("never", 0), 1)
        self.told(0, own.least_wait, inn, ("within", 0, 0, 3), 1)
        # With a longer wait it is barred by what comes meanwhile.
        pledge = ("apart", 0, 1)
        pair = bare_house(1, [(0, "any", (0,), 0, (), 0, 0, 0), (0, "any", (0,), 0, (), 1, 0, 0)], ("bell", "door"))
        self.told(None, own.least_wait, pair, pledge, 0)
        lines = [(0, "any", (0,), 5, (), 0, 0, 0), (0, "any", (0,), 0, (), 1, 0, 0)]
        self.told(60, own.least_wait, bare_house(1, lines, ("bell", "door")), ("ahead", 0, 1, 55), 1)
        self.told(None, own.least_wait, bare_house(1, lines, ("bell", "door")), ("ahead", 0, 1, 56), 1)

    def test_in_order(self):
        self.told(True, own.in_order, inn, ())
        self.told(True, own.in_order, inn, (1,))
        self.told(False, own.in_order, inn, (0, 1))
        pair = bare_house(2, [(0, "any", (0, 1), 2, (), 0, 0, 0), (0, "all", (0, 1), 2, (), 1, 0, 0)], ("bell", "door", "bell"))
        self.told(True, own.in_order, pair, (0, 1))
        self.told(False, own.in_order, pair, (1, 0))
        self.told(True, own.in_order, pair, (0, 1, 2))
        self.told(False, own.in_order, pair, (0, 2, 1))


class Errors(StyledCase):
    PLEDGES = (
        (NoOut(2), ("never", 2)), (NoOut(-1), ("never", -1)), (NoOut(9), ("sure", 9, (9,))), (NoZone(2), ("sure", 0, (0, 2, 3))),
        (NoOut(9), ("within", 9, 9, 0)), (NoZone(2), ("within", 0, 2, 0)), (NoZone(-1), ("within", 0, -1, 0)),
        (NoOut(8), ("ahead", 8, 9, 0)), (NoOut(9), ("ahead", 0, 9, 0)), (NoOut(8), ("apart", 8, 9)), (NoOut(9), ("apart", 1, 9)),
    )

    def test_what_is_not_there(self):
        way = ((), (None, None), ())
        for error, pledge in self.PLEDGES:
            for house in (inn, barred):
                self.raises(error, own.keeps, house, pledge, (1, 1))
                self.raises(error, own.holds, house, pledge)
                self.raises(error, own.ways_to_break, house, pledge)
                self.raises(error, own.comparisons, house, pledge, way)
                self.raises(error, own.loop_in, house, pledge, way)
                self.raises(error, own.is_loop, house, pledge, way, None)
                self.raises(error, own.breaking_times, house, pledge)
                self.raises(error, own.least_wait, house, pledge, 99)
        for out in (-1, 2, 9):
            self.raises(NoOut(out), own.lead_of, inn, out, 99)
            self.raises(NoOut(out), own.lead_of, inn, 0, out)
            self.raises(NoOut(out), own.in_order, inn, (0, out, 99))
            self.raises(NoOut(out), own.in_order, inn, (out,))
        for line in (-1, 2, 9):
            self.raises(NoLine(line), own.least_wait, inn, ("never", 0), line)
        # Ahead of TooMany.
        self.raises(NoLine(4), own.least_wait, CROSS, ("within", 0, 0, 0), 4)
        self.raises(NoZone(3), own.holds, CROSS, ("within", 0, 3, 0))
        self.raises(NoOut(3), own.lead_of, CROSS, 0, 3)
        self.raises(NoOut(3), own.in_order, CROSS, (0, 1, 3))

    def test_too_many(self):
        pledge = ("within", 0, 0, 0)
        for function, args in (
            (own.ways_to_break, (pledge,)), (own.holds, (pledge,)), (own.breaking_times, (pledge,)),
            (own.lead_of, (0, 1)), (own.least_wait, (pledge, 0)), (own.in_order, ((0, 1),)), (own.in_order, ((2, 0, 1),)),
        ):
            self.raises(TooMany(), function, CROSS, *args)
        way = ((), (None,) * 4, ())
        self.told((), own.comparisons, CROSS, ("sure", 0, ()), way)
        self.told(None, own.loop_in, CROSS, ("sure", 0, ()), way)
        self.told(False, own.is_loop, CROSS, ("sure", 0, ()), way, ((0, 1, 2),))
        self.told(True, own.keeps, CROSS, pledge, (None, 1, 1))
        # Those alone that are asked for.
        self.told(True, own.in_order, CROSS, (0, 2))

    def test_four_thousand_ways(self):
        rows = (((0, 1, 2), "all", (0, 1)), ((0, 1, 2), "any", (0, 1)), ((1, 2), "all", (0, 1)), ((1, 2), "all", (0, 1, 2)))
        lines = [(0, when, called, 1, bars, 1, 0, 0) for called, when, bars in rows]
        house = bare_house(3, lines, ("bell", "door"))
        self.assertEqual(len(own.ways_to_break(house, ("sure", 0, ()))), 4000)
        self.told(False, own.holds, house, ("sure", 0, ()))
        # Two more.
        rows = (
            ((1, 2), "all", (0, 1, 2), 0), ((0, 1), "any", (1, 2), 1), ((0, 1, 2), "any", (1, 2), 1),
            ((0, 1, 2), "any", (0, 2), 0),
        )
        lines = [(0, when, called, 1, bars, out, 0, 0) for called, when, bars, out in rows]
        house = bare_house(3, lines, ("bell", "door"))
        self.assertEqual(len(ways_by_words(house, ("within", 0, 0, 0))), 4002)
        self.raises(TooMany(), own.holds, house, ("within", 0, 0, 0))

    def test_just_so_many(self):
        dice = random.Random(3)
        counts = set()
        while len(counts) < 12:
            house = bare_house(3, some_lines(dice, 3, 4, 3, 2), ("bell", "door"))
            pledge = some_pledge(dice, 3, 2)
            many = len(ways_by_words(house, pledge))
            if many > 4000:
                self.assertRaises(TooMany, own.ways_to_break, house, pledge)
                self.assertRaises(TooMany, own.holds, house, pledge)
            elif many > 1200:
                self.assertEqual(len(own.ways_to_break(house, pledge)), many)
            else:
                continue
            counts.add(many)


class ForAll(unittest.TestCase):
    """Houses and PLEDGES by a seed, by all TIMES that begin at 0 and are not farther apart than matters."""

    def samples(self, seed, many, zones=None):
        dice = random.Random(seed)
        for _ in range(many):
            count = zones or dice.choice((1, 2, 2, 3))
            lines = some_lines(dice, count, 4 if count < 3 else 2, 2, 2)
            yield dice, bare_house(count, lines, ("bell", "door")), some_pledge(dice, count, 2)

    def times(self, zones, last=9):
        return [row for row in oracle.all_times(zones, last) if not any(own_tick is not None for own_tick in row) or 0 in row]

    def test_lines_and_plays(self):
        for dice, house, _ in self.samples(81, 60):
            zones = len(house[1])
            for times in list(oracle.all_times(zones, 3))[::max(1, 2 * zones)]:
                begins = tuple(((0, at), tick) for at, tick in enumerate(times) if tick is not None)
                rows = oracle.course_of((house, oracle.speech_of(begins), (), 12))
                told = own.lines_by(house, times)
                self.assertEqual(told, tuple((state, end) for state, _, end in rows[-1]["stand"][5]))
                self.assertEqual(told, oracle.lines_by_times(house, times))
                self.assertEqual(own.outs_by(house, times), rows[-1]["stand"][7])
                self.assertEqual(own.outs_by(house, times), oracle.outs_by_times(house, times))

    def test_ways(self):
        loops = opens = 0
        for dice, house, pledge in self.samples(82, 150):
            self.assertTrue(own.is_pledge(house, pledge))
            ways = ways_by_words(house, pledge)
            if len(ways) > 60:
                continue
            self.assertEqual(own.ways_to_break(house, pledge), ways)
            rows = self.times(len(house[1]))
            broken = [times for times in rows if not keeps_by_words(house, pledge, times)]
            let = {times: [] for times in rows}
            for way in ways:
                bounds = own.comparisons(house, pledge, way)
                self.assertEqual(bounds, tuple(sorted(set(bounds))))
                own_rows = [
                    times for times in rows
                    if tuple(z for z in range(len(times)) if times[z] is not None) == way[0] and allows(bounds, times)
                ]
                for times in own_rows:
                    let[times].append(way)
                loop = own.loop_in(house, pledge, way)
                self.assertEqual(loop is None, own_rows != [])
                if loop is None:
                    opens += 1
                    self.assertFalse(own.is_loop(house, pledge, way, bounds) and own_rows)
                else:
                    loops += 1
                    self.assertTrue(own.is_loop(house, pledge, way, loop))
                    self.assertTrue(set(loop) <= set(bounds))
                    self.assertLess(sum(n for _, _, n in loop), 0)
                    self.assertEqual([y for _, y, _ in loop], [x for x, _, _ in loop[1:] + loop[:1]])
            self.assertEqual(broken, [times for times in rows if let[times]])
            first = [way for way in ways if any(way in let[times] for times in rows)][:1]
            least = min(
                (times for times in rows if first and first[0] in let[times]),
                key=lambda row: [oracle.later(tick) for tick in row], default=None,
            )
            self.assertEqual(own.breaking_times(house, pledge), least)
            self.assertEqual(own.holds(house, pledge), broken == [])
            for times in rows[::7]:
                self.assertEqual(own.keeps(house, pledge, times), keeps_by_words(house, pledge, times))
        self.assertGreater(min(loops, opens), 200)

    def test_least_times_are_least_everywhere(self):
        for dice, house, pledge in self.samples(83, 60, 2):
            times = own.breaking_times(house, pledge)
            ways = own.ways_to_break(house, pledge)
            if times is None:
                continue
            way = [row for row in ways if own.loop_in(house, pledge, row) is None][0]
            bounds = own.comparisons(house, pledge, way)
            for row in oracle.all_times(2, 9):
                if tuple(z for z in range(2) if row[z] is not None) == way[0] and allows(bounds, row):
                    self.assertTrue(all(one is None or one <= other for one, other in zip(times, row)))

    def lead_by_words(self, house, out, other, last):
        leads = []
        for times in self.times(len(house[1]), last):
            outs = oracle.outs_by_times(house, times)
            if outs[other] is not None:
                leads.append(-10 ** 9 if outs[out] is None else outs[other] - outs[out])
        return min(leads, default=None)

    def test_leads_and_waits(self):
        leads, waits = set(), set()
        for dice, house, pledge in self.samples(84, 120):
            last = 8 if len(house[1]) == 3 else 12
            one, other = self.lead_by_words(house, 0, 1, last), self.lead_by_words(house, 0, 1, last + 3)
            told = one if one == other and one != -10 ** 9 else None
            self.assertEqual(own.lead_of(house, 0, 1), told)
            leads.add(told)
            self.assertEqual(own.in_order(house, (0, 1)), other is None or other >= 0)
            if told is not None and told >= 0:
                self.assertTrue(own.holds(house, ("ahead", 0, 1, told)))
                self.assertFalse(own.holds(house, ("ahead", 0, 1, told + 1)))
            if len(house[1]) == 3 or not house[2]:
                continue
            line = dice.randrange(len(house[2]))
            rows = self.times(len(house[1]), 70)
            least = None
            for wait in range(61):
                changed = list(house[2])
                changed[line] = changed[line][:3] + (wait,) + changed[line][4:]
                changed = house[:2] + (tuple(changed),) + house[3:]
                if all(keeps_by_words(changed, pledge, times) for times in rows):
                    least = wait
                    break
            self.assertEqual(own.least_wait(house, pledge, line), least)
            waits.add(least)
        self.assertLessEqual({None, 0, 1, 2}, leads)
        self.assertGreater(len(waits), 2)


class Greatest(StyledCase):
    def test_four_lines_and_three_zones(self):
        """WAYS near 4,000: what is told is so by TIMES of a few gaps."""
        dice = random.Random(85)
        seen = 0
        while seen < 12:
            lines = [
                (0, dice.choice(("any", "all")), tuple(sorted(dice.sample(range(3), dice.randint(2, 3)))), dice.randint(0, 20),
                 tuple(sorted(dice.sample(range(3), dice.randint(1, 3)))), dice.randint(0, 1), 0, 0)
                for _ in range(4)
            ]
            house, pledge = bare_house(3, lines, ("bell", "door")), some_pledge(dice, 3, 2)
            many = len(ways_by_words(house, pledge))
            if not 1000 < many <= 4000:
                continue
            seen += 1
            times = own.breaking_times(house, pledge)
            marks = sorted({0} | {line[3] for line in lines} | {line[3] + 1 for line in lines})
            rows = [row for row in itertools.product(marks + [None], repeat=3)]
            broken = [row for row in rows if not keeps_by_words(house, pledge, row)]
            self.assertEqual(own.holds(house, pledge), times is None)
            if times is None:
                self.assertEqual(broken, [])
            else:
                self.assertFalse(keeps_by_words(house, pledge, times))
            own.least_wait(house, pledge, 0)

    def test_keep_and_loft(self):
        for house in (keep, loft):
            for pledge in (("never", 0), ("sure", 1, ()), ("within", 1, 0, 4), ("ahead", 0, 1, 1), ("apart", 0, 1)):
                self.assertEqual(own.ways_to_break(house, pledge), ways_by_words(house, pledge))
