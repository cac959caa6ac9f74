"""Islands [21]."""

import itertools
import random
import unittest

from secondknock import islands as own
from secondknock.errors import NoLine, NoPanel, NoZone
from secondknock.plays import on_ticks, stands
from tests import oracle
from tests.samples import bare, inn, loft, some_house
from tests.styles import StyledCase

HOUSE = loft[:1] + ((loft[1][0], (((1, 0),), 1, None)),) + loft[2:]
CUT = ((0, ("part", 0)), (0, ("part", 1)), (6, ("join", 1)))
RING = (0, (("feel", 0),))
# A ZONE on each of three panels; LINES of every panel.
THREE = (
    (RING, (1, RING[1]), (2, RING[1])),
    tuple((((number, 0),), 1, None) for number in range(3)),
    (
        (0, "any", (1, 2), 1, (), 0, 0, 0), (1, "all", (0, 1, 2), 0, (), 1, 0, 0), (2, "any", (2,), 2, (0, 1), 2, 0, 0),
        (0, "any", (0,), 5, (1,), 0, 0, 0),
    ),
    ("bell", "door", "door"),
    3,
)


class Links(StyledCase):
    def test_islands_of_one_panel(self):
        self.told((0,), own.island_of, 1, (), 0)
        self.told([(0,)], own.islands, 1, ())
        self.told(True, own.alike_parted, 1, (), ())

    def test_islands_of_two_panels(self):
        for parted, told in (((), [(0, 1)]), ((0,), [(0, 1)]), ((1,), [(0, 1)]), ((0, 1), [(0,), (1,)])):
            self.told(told, own.islands, 2, parted)
            for island in told:
                for panel in island:
                    self.told(island, own.island_of, 2, parted, panel)

    def test_islands_of_three_panels(self):
        for parted, told in (
            ((), [(0, 1, 2)]), ((0,), [(0, 1, 2)]), ((1,), [(0, 1, 2)]), ((2,), [(0, 1, 2)]),
            ((0, 1), [(0, 2), (1,)]), ((0, 2), [(0,), (1, 2)]), ((1, 2), [(0, 1), (2,)]),
            ((0, 1, 2), [(0,), (1,), (2,)]),
        ):
            self.told(told, own.islands, 3, parted)
            for island in told:
                for panel in island:
                    self.told(island, own.island_of, 3, parted, panel)

    def test_alike_parted(self):
        for parted, other in itertools.product([(), (0,), (1,), (2,), (0, 1), (0, 2), (1, 2), (0, 1, 2)], repeat=2):
            told = parted == other or (len(parted) < 2 and len(other) < 2)
            self.told(told, own.alike_parted, 3, parted, other)
        self.told(True, own.alike_parted, 2, (0,), (1,))
        self.told(False, own.alike_parted, 2, (0,), (0, 1))

    def test_parted_at(self):
        deeds = ((0, ("part", 1)), (2, ("part", 0)), (2, ("part", 0)), (3, ("join", 1)), (3, ("part", 1)), (4, ("join", 0)))
        for tick, told in enumerate(((1,), (1,), (0, 1), (0, 1), (1,), (1,))):
            self.told(told, own.parted_at, HOUSE, deeds, tick)
        self.told((), own.parted_at, HOUSE, (), 9)
        self.told((), own.parted_at, inn, (), 0)
        self.told((), own.parted_at, HOUSE, ((3, ("join", 0)), (5, ("part", 1))), 4)

    def test_joined_stretches(self):
        self.told(((6, 9),), own.joined_stretches, HOUSE, CUT, 0, 1, 9)
        self.told(((6, 9),), own.joined_stretches, HOUSE, CUT, 1, 0, 9)
        self.told((), own.joined_stretches, HOUSE, CUT, 0, 1, 6)
        self.told(((0, 9),), own.joined_stretches, HOUSE, CUT, 1, 1, 9)
        self.told(((0, 9),), own.joined_stretches, HOUSE, CUT[:1], 0, 1, 9)
        deeds = ((2, ("part", 0)), (2, ("part", 2)), (5, ("join", 2)), (7, ("part", 1)), (8, ("part", 2)), (8, ("join", 2)))
        self.told(((0, 2), (5, 9)), own.joined_stretches, THREE, deeds, 0, 2, 9)
        self.told(((0, 2), (5, 7)), own.joined_stretches, THREE, deeds, 0, 1, 9)
        self.told(((0, 7),), own.joined_stretches, THREE, deeds, 1, 2, 9)
        self.told(((0, 1),), own.joined_stretches, THREE, deeds, 0, 1, 1)
        # Parted and joined again at one tick.
        again = ((3, ("part", 0)), (3, ("part", 1)), (3, ("join", 0)))
        self.told(((0, 6),), own.joined_stretches, HOUSE, again, 0, 1, 6)


class Seeing(StyledCase):
    def test_seen(self):
        self.told(6, own.seen_tick, HOUSE, (2, 3), CUT, 1, 0, 9)
        self.told(2, own.seen_tick, HOUSE, (2, 3), CUT, 0, 0, 9)
        self.told(None, own.seen_tick, HOUSE, (2, 3), CUT, 1, 0, 6)
        self.told(None, own.seen_tick, HOUSE, (None, 3), CUT, 0, 0, 9)
        self.told(None, own.seen_tick, HOUSE, (9, 3), (), 0, 0, 9)
        self.told(8, own.seen_tick, HOUSE, (8, 3), CUT, 1, 0, 9)
        self.told(((2, 6), (6, 3)), own.seen_rows, HOUSE, (2, 3), CUT, 9)
        self.told(((None, None), (None, None)), own.seen_rows, HOUSE, (2, 3), CUT, 2)
        self.told(((),), own.seen_rows, bare, (), (), 3)
        # Seen by way of another panel.
        deeds = ((0, ("part", 0)), (0, ("part", 2)), (4, ("join", 2)))
        self.told(((1, 4, 4), (4, 1, 1), (4, 1, 1)), own.seen_rows, THREE, (1, 1, 1), deeds, 6)

    def test_lines_and_outs(self):
        self.told((("on", 6, 6), ("on", 3, 5)), own.line_rows, HOUSE, (2, 3), CUT, 9)
        self.told((("idle", None, None), ("waits", 3, 5)), own.line_rows, HOUSE, (2, 3), CUT, 5)
        self.told((("on", 3, 3), ("barred", 3, 5)), own.line_rows, HOUSE, (2, 3), (), 9)
        self.told((("idle", None, None),) * 2, own.line_rows, HOUSE, (None, None), (), 9)
        self.told((6, 5), own.out_ticks, HOUSE, (2, 3), CUT, 9)
        self.told((3, None), own.out_ticks, HOUSE, (2, 3), (), 9)
        self.told((None, None), own.out_ticks, HOUSE, (2, 3), CUT, 5)
        # Barred at the very tick of its end, on a tick ahead of that.
        self.told((5, None), own.out_ticks, HOUSE, (5, 3), (), 9)
        self.told((6, 5), own.out_ticks, HOUSE, (6, 3), (), 9)
        self.told((), own.line_rows, bare, (), (), 3)
        self.told((), own.out_ticks, bare, (), (), 3)
        # Of two LINES of one OUT the first to end tells.
        self.told((5, 4, None), own.out_ticks, THREE, (4, 4, 4), ((0, ("part", 0)),), 9)
        self.told((3, None, None), own.out_ticks, THREE, (None, 2, None), (), 9)

    def test_alone_and_left_out(self):
        self.told((1,), own.rung_alone, HOUSE, (2, 3), CUT, 9)
        self.told((), own.rung_alone, HOUSE, (2, 3), (), 9)
        self.told((), own.rung_alone, HOUSE, (6, 3), CUT, 9)
        self.told((1,), own.rung_alone, HOUSE, (5, 3), CUT, 9)
        self.told((), own.rung_alone, HOUSE, (2, 3), CUT, 5)
        self.told((0,), own.left_out, HOUSE, (2, 3), CUT[:2], 9)
        self.told((), own.left_out, HOUSE, (2, 3), CUT, 9)
        self.told((0,), own.left_out, HOUSE, (2, 3), CUT, 6)
        self.told((), own.left_out, HOUSE, (2, 3), (), 9)

    def test_parts_that_ring(self):
        self.told([(0, 1)], own.parts_that_ring, HOUSE, (2, 3), 1, 9)
        self.told([], own.parts_that_ring, HOUSE, (2, 3), 0, 9)
        self.told([], own.parts_that_ring, HOUSE, (6, 3), 1, 9)
        self.told([(0, 2), (1, 2)], own.parts_that_ring, THREE, (1, None, 1), 2, 9)
        self.told([(0, 1), (1, 2)], own.parts_that_ring, THREE, (None, 1, 1), 2, 9)
        self.told([], own.parts_that_ring, inn, (0, 0), 1, 9)

    def test_errors_parameter_by_parameter(self):
        for number in (3, -1):
            self.raises(NoPanel(number), own.island_of, 3, (), number)
            self.raises(NoPanel(number), own.joined_stretches, THREE, (), number, 7, 4)
            self.raises(NoPanel(number), own.joined_stretches, THREE, (), 0, number, 4)
            self.raises(NoPanel(number), own.seen_tick, THREE, (1, 1, 1), (), number, 9, 4)
            self.raises(NoZone(number), own.seen_tick, THREE, (1, 1, 1), (), 0, number, 4)
        for number in (4, -1):
            self.raises(NoLine(number), own.parts_that_ring, THREE, (1, 1, 1), number, 4)
        self.raises(NoPanel(1), own.island_of, 1, (), 1)

    def test_links_that_are_not_there(self):
        gone = ((0, ("part", 0)), (1, ("join", 3)), (2, ("part", 9)))
        self.raises(NoPanel(3), own.island_of, 3, (0, 3), 7)
        self.raises(NoPanel(0), own.islands, 1, (0,))
        self.raises(NoPanel(2), own.alike_parted, 2, (0,), (2,))
        self.raises(NoPanel(2), own.alike_parted, 2, (2,), (0,))
        self.raises(NoPanel(2), own.alike_parted, 2, (0, 2), (5,))
        self.raises(NoPanel(3), own.parted_at, THREE, gone, 0)
        self.raises(NoPanel(3), own.joined_stretches, THREE, gone, 7, 7, 4)
        self.raises(NoPanel(3), own.seen_tick, THREE, (1, 1, 1), gone, 7, 7, 4)
        for function in (own.seen_rows, own.line_rows, own.out_ticks, own.rung_alone, own.left_out):
            self.raises(NoPanel(3), function, THREE, (1, 1, 1), gone, 4)


class ForAll(unittest.TestCase):
    """All sets of links, and PLAYS of part and join by a seed, by the words of [3]."""

    def test_all_sets_of_links(self):
        for panels in (1, 2, 3):
            links = range(panels if panels > 1 else 0)
            sets = [row for many in range(4) for row in itertools.combinations(links, many)]
            rows = {}
            for parted in sets:
                told = {tuple(p for p in range(panels) if oracle.together(panels, parted, one, p)) for one in range(panels)}
                rows[parted] = sorted(told)
                self.assertEqual(own.islands(panels, parted), rows[parted])
                for panel in range(panels):
                    self.assertIn(panel, own.island_of(panels, parted, panel))
                    self.assertIn(own.island_of(panels, parted, panel), rows[parted])
            for one, other in itertools.product(sets, repeat=2):
                self.assertEqual(own.alike_parted(panels, one, other), rows[one] == rows[other])

    def some_times_house(self, dice):
        """A HOUSE with a ZONE for each of some feelers, each alone and of its own, stay None."""
        panels = dice.choice((1, 2, 3, 2, 3))
        rings = tuple((panel, (("feel", 0),) * 3) for panel in range(panels))
        spots = dice.sample([(panel, at) for panel in range(panels) for at in range(3)], dice.choice((1, 2, 3, 3, 3)))
        zones = tuple(((spot,), 1, None) for spot in spots)
        outs = tuple(dice.choice(("bell", "door")) for _ in range(dice.randint(1, 3)))
        lines = []
        for _ in range(dice.randint(1, 4)):
            called = tuple(sorted(dice.sample(range(len(zones)), dice.choice((1, 1, len(zones))))))
            unless = tuple(sorted(dice.sample(range(len(zones)), min(len(zones), dice.choice((0, 1, 1, 2))))))
            lines.append((dice.randrange(panels), dice.choice(("any", "all")), called, dice.randint(0, 5), unless,
                          dice.randrange(len(outs)), 0, 0))
        return (rings, zones, tuple(lines), outs, panels)

    def some_deeds(self, dice, panels, many):
        if panels == 1:
            return ()
        ticks = sorted(dice.choice((0, 0, 0, dice.randrange(many))) for _ in range(dice.randint(0, 8)))
        told = tuple((tick, (dice.choice(("part", "part", "join")), dice.randrange(panels))) for tick in ticks)
        # Apart from the first tick on, every other time: else panels are seldom apart.
        return dice.choice(((), tuple((0, ("part", link)) for link in range(panels)))) + told

    def test_as_a_play_goes(self):
        dice = random.Random(41)
        alone = left = 0
        for _ in range(1200):
            house, many = self.some_times_house(dice), dice.randint(3, 14)
            times = tuple(dice.choice((None, 0, 1, 2, dice.randint(0, 15))) for _ in house[1])
            deeds = self.some_deeds(dice, house[4], many)
            speech = tuple(sorted((zone[0][0], ((tick, None),)) for zone, tick in zip(house[1], times) if tick is not None))
            play = (house, speech, deeds, many)
            rows = stands(play)
            self.assertEqual(own.seen_rows(house, times, deeds, many), rows[-1][4])
            self.assertEqual(own.line_rows(house, times, deeds, many), rows[-1][5])
            self.assertEqual(own.out_ticks(house, times, deeds, many), on_ticks(play))
            for panel, row in enumerate(rows[-1][4]):
                for zone, tick in enumerate(row):
                    self.assertEqual(own.seen_tick(house, times, deeds, panel, zone, many), tick)
            for tick, row in enumerate(rows):
                self.assertEqual(own.parted_at(house, deeds, tick), row[2])
            whole = stands((house, speech, (), many))[-1][5]
            left_out = tuple(n for n, (a, b) in enumerate(zip(rows[-1][5], whole)) if b[0] == "on" and a[0] != "on")
            self.assertEqual(own.left_out(house, times, deeds, many), left_out)
            ring_alone = self.alone_by_words(house, times, rows[-1][5])
            self.assertEqual(own.rung_alone(house, times, deeds, many), ring_alone)
            alone, left = alone + len(ring_alone), left + len(left_out)
            self.check_stretches(house, deeds, many)
        self.assertGreater(min(alone, left), 20)

    def alone_by_words(self, house, times, rows):
        return tuple(
            number for number, (line, row) in enumerate(zip(house[2], rows))
            if row[0] == "on" and any(times[zone] is not None and times[zone] <= row[2] for zone in line[4])
        )

    def check_stretches(self, house, deeds, many):
        for one, other in itertools.product(range(house[4]), repeat=2):
            told = own.joined_stretches(house, deeds, one, other, many)
            ticks = [tick for a, b in told for tick in range(a, b)]
            parted = [own.parted_at(house, deeds, tick) for tick in range(many)]
            self.assertEqual(ticks, [t for t in range(many) if oracle.together(house[4], parted[t], one, other)])
            self.assertTrue(all(one_end < begin for (_, one_end), (begin, _) in zip(told, told[1:])))

    def test_parts_that_ring(self):
        dice = random.Random(42)
        found = 0
        for _ in range(300):
            house, many = self.some_times_house(dice), dice.randint(5, 12)
            times = tuple(dice.choice((None, 0, 2, dice.randint(0, 12))) for _ in house[1])
            links = range(house[4] if house[4] > 1 else 0)
            sets = [row for size in range(4) for row in itertools.combinations(links, size)]
            for number in range(len(house[2])):
                good = [
                    row for row in sets
                    if number in own.rung_alone(house, times, tuple((0, ("part", link)) for link in row), many)
                ]
                least = sorted(row for row in good if not any(set(less) < set(row) for less in good))
                self.assertEqual(own.parts_that_ring(house, times, number, many), least)
                found += len(least)
        self.assertGreater(found, 20)

    def test_whatever_house_comes(self):
        dice = random.Random(43)
        for _ in range(100):
            house = some_house(dice)
            house = (house[0], tuple((spots, knocks, None) for spots, knocks, _ in house[1])) + house[2:]
            times = tuple(dice.choice((None, 0, 5)) for _ in house[1])
            rows = own.seen_rows(house, times, self.some_deeds(dice, house[4], 9), 9)
            self.assertEqual(len(rows), house[4])
