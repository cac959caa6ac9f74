"""Rings [4]."""

import itertools
import unittest

from secondknock import rings as own
from secondknock.errors import NoGap, NoRing, NoSpot
from tests import oracle
from tests.samples import crack, hall, short
from tests.styles import StyledCase

CUTS = (0, (("cut",), ("cut",)))
LONE = (1, (("feel", 3), ("bell", 0)))
THREE = (hall, LONE, CUTS)


class Things(StyledCase):
    def test_is_ring(self):
        good = [
            hall, LONE, CUTS, (0, (("cut",),)), (9, (("bell", 10 ** 20),)), (10 ** 20, (("feel", 10 ** 20),)),
            (0, (("feel", 0),) * 500), (3, (("cut",),) * 9),
        ]
        bad = [
            (0, ()), (0, [("cut",)]), [0, (("cut",),)], (0, (["cut"],)), (True, (("cut",),)), (-1, (("cut",),)),
            (None, (("cut",),)), ("0", (("cut",),)), (0, (("cut",),), 0), (0,), (0, ("cut",)), (0, (("cut", 0),)),
            (0, (("feel",),)), (0, (("feel", -1),)), (0, (("feel", True),)), (0, (("bell", None),)),
            (0, (("bell", 0, 0),)), (0, (("door", 0),)), (0, ((),)), (0, (("feel", (0,)),)), (0, "cut"),
            (0, (("cut",), None)), (0, ((0, "feel"),)), (0, (("feel", 0), ("bell", "0"))), ((0, (("cut",),)),),
        ]
        self.things(good, bad, own.is_ring)

    def test_are_faults(self):
        good = [
            (), (short,), (crack, short), (("break", (0, 7)),), (("break", (2, 2)), ("short", (1, 2))),
            tuple(sorted(("short", gap) for gap in oracle.all_gaps(THREE))),
        ]
        bad = [
            (short, crack), (crack, crack), (("break", (0, 4)), short), [short], (list(short),),
            (("short", [0, 4]),), (("break", (0, 8)),), (("break", (3, 0)),), (("break", (0, -1)),),
            (("break", (-1, 0)),), (("break", (0, True)),), (("break", (False, 0)),), (("crack", (0, 0)),),
            (("break", 0),), (("break", (0,)),), (("break", (0, 0, 0)),), (("break",),), ("break", (0, 3)),
            (("short", (0, 0)), ("break", (0, 1))), (("break", (0, 1)), ("break", (0, 0))), (None, short),
            (("break", (0, None)),), (("break", (0, "1")),), (("break", (0, 0)), ("short", (0, 0))),
        ]
        self.things(good, bad, own.are_faults, THREE)
        self.things([()], [(short,), (crack, short)], own.are_faults, (LONE,))


class Sections(StyledCase):
    def test_sections_without_pieces(self):
        self.told([(), (), ()], own.sections_of, CUTS)
        self.told([(0, 1)], own.sections_of, LONE)
        self.told([(0,), (2, 3, 4), (6,)], own.sections_of, hall)

    def test_section_of_each_gap(self):
        for gap, section in enumerate((0, 0, 1, 1, 1, 1, 2, 2)):
            self.told(section, own.section_of, THREE, (0, gap))
        for gap in range(3):
            self.told(0, own.section_of, THREE, (1, gap))
            self.told(gap, own.section_of, THREE, (2, gap))

    def test_no_gap(self):
        for gap in ((0, 8), (0, -1), (3, 0), (-1, 0), (1, 3)):
            self.raises(NoGap(gap), own.section_of, THREE, gap)


class Heard(StyledCase):
    def test_fault_at_an_end(self):
        self.told((), own.heard_from_a, THREE, (("break", (0, 0)),), 0)
        self.told((0, 2, 3, 4, 6), own.heard_from_b, THREE, (("break", (0, 0)),), 0)
        self.told((0, 2, 3, 4, 6), own.heard_from_a, THREE, (("break", (0, 7)),), 0)
        self.told((0, 2, 3, 4), own.heard_from_a, THREE, (("short", (0, 7)),), 0)
        self.told((), own.heard_from_b, THREE, (("short", (0, 7)),), 0)

    def test_fault_beside_a_cut_off(self):
        self.told((0, 2, 3, 4), own.heard_from_a, THREE, (("break", (0, 5)),), 0)
        self.told((0,), own.heard_from_a, THREE, (("short", (0, 5)),), 0)
        self.told((0, 2, 3, 4), own.heard_from_a, THREE, (("break", (0, 6)),), 0)
        self.told((0, 2, 3, 4), own.heard_from_a, THREE, (("short", (0, 6)),), 0)
        self.told((6,), own.heard_from_b, THREE, (("short", (0, 5)),), 0)

    def test_break_beside_short_in_one_section(self):
        self.told(((0, 0), (0, 2), (0, 6)), own.heard, (hall,), (crack, short))
        self.told(((0, 0), (0, 6)), own.heard, (hall,), (short,))
        self.told(((0, 3), (0, 4)), own.lost, (hall,), (crack, short))

    def test_empty_sections_count(self):
        faults = (("short", (2, 1)),)
        self.told(((0, 0), (0, 2), (0, 3), (0, 4), (0, 6), (1, 0), (1, 1)), own.heard, THREE, faults)
        self.told((0, 1), own.opened, THREE, faults, 2)
        beside = (0, (("feel", 0), ("cut",), ("cut",), ("feel", 0)))
        self.told(((0, 0), (0, 3)), own.heard, (beside,), (("short", (0, 2)),))
        self.told((1, 2), own.opened, (beside,), (("short", (0, 2)),), 0)
        self.told((), own.opened, (beside,), (("break", (0, 2)),), 0)

    def test_no_fault_at_all(self):
        for number in range(3):
            self.told(None, own.first_from_a, THREE, (), number)
            self.told(None, own.first_from_b, THREE, (), number)
            self.told((), own.opened, THREE, (), number)
        self.told((), own.lost, THREE, ())
        self.told((0, 1), own.heard_from_a, THREE, (), 1)
        self.told((), own.heard_from_b, THREE, (), 2)

    def test_first_faults_are_those_of_the_ring(self):
        faults = (("break", (0, 6)), ("break", (1, 0)), ("short", (0, 2)), ("short", (1, 2)))
        self.told(("short", (0, 2)), own.first_from_a, THREE, faults, 0)
        self.told(("break", (0, 6)), own.first_from_b, THREE, faults, 0)
        self.told(("break", (1, 0)), own.first_from_a, THREE, faults, 1)
        self.told(("short", (1, 2)), own.first_from_b, THREE, faults, 1)
        self.told(None, own.first_from_a, THREE, faults, 2)

    def test_is_heard(self):
        self.told(True, own.is_heard, THREE, (), (0, 4))
        self.told(False, own.is_heard, THREE, (), (0, 1))
        self.told(False, own.is_heard, THREE, (short,), (0, 4))
        self.told(True, own.is_heard, THREE, (short,), (1, 1))

    def test_heard_by(self):
        self.told((0, 2, 6), own.heard_by, hall, crack, short)
        self.told((0, 6), own.heard_by, hall, short, short)
        self.told((0, 2, 3, 4, 6), own.heard_by, hall, crack, crack)
        self.told((0, 6), own.heard_by, hall, ("short", (5, 3)), ("break", (5, 5)))


class Errors(StyledCase):
    def test_no_ring_comes_first(self):
        gone = (("break", (7, 0)),)
        for function in (own.first_from_a, own.first_from_b, own.heard_from_a, own.heard_from_b, own.opened):
            for number in (3, -1, 99):
                self.raises(NoRing(number), function, THREE, (), number)
                self.raises(NoRing(number), function, THREE, gone, number)

    def test_no_spot(self):
        for spot in ((0, 7), (0, -1), (3, 0), (-1, 0), (1, 2)):
            self.raises(NoSpot(spot), own.is_heard, THREE, (crack,), spot)
        self.raises(NoSpot((0, 7)), own.is_heard, THREE, (("break", (7, 0)),), (0, 7))

    def test_no_gap_of_a_fault(self):
        gone = (("break", (0, 3)), ("short", (1, 3)), ("short", (4, 0)))
        self.raises(NoGap((1, 3)), own.heard, THREE, gone)
        self.raises(NoGap((1, 3)), own.lost, THREE, gone)
        self.raises(NoGap((1, 3)), own.is_heard, THREE, gone, (0, 0))
        for function in (own.first_from_a, own.first_from_b, own.heard_from_a, own.heard_from_b, own.opened):
            self.raises(NoGap((1, 3)), function, THREE, gone, 0)
        self.raises(NoGap((0, 8)), own.heard_by, hall, ("break", (0, 8)), ("break", (0, 9)))
        self.raises(NoGap((0, 9)), own.heard_by, hall, ("break", (0, 7)), ("break", (0, 9)))


class ForAll(unittest.TestCase):
    """All mishaps of all small RINGS, by the words of [3]."""

    def check(self, rings, faults):
        there = oracle.heard(rings, faults)
        self.assertEqual(own.heard(rings, faults), there, (rings, faults))
        bare = [(n, at) for n, ring in enumerate(rings) for at, piece in enumerate(ring[1]) if piece != ("cut",)]
        self.assertEqual(own.lost(rings, faults), tuple(spot for spot in bare if spot not in there))
        for number, ring in enumerate(rings):
            for at in range(len(ring[1])):
                self.assertEqual(own.is_heard(rings, faults, (number, at)), (number, at) in there)
        for number in range(len(rings)):
            mine = sorted((gap[1], word) for word, gap in faults if gap[0] == number)
            ends = [(word, (number, gap)) for gap, word in mine]
            self.assertEqual(own.first_from_a(rings, faults, number), ends[0] if ends else None)
            self.assertEqual(own.first_from_b(rings, faults, number), ends[-1] if ends else None)
            self.assertEqual(own.heard_from_a(rings, faults, number), tuple(oracle.from_a(rings, faults, number)))
            self.assertEqual(own.heard_from_b(rings, faults, number), tuple(oracle.from_b(rings, faults, number)))
            self.assertEqual(own.opened(rings, faults, number), oracle.opened(rings, faults, number))
            if ends:
                pieces = tuple(at for ring, at in there if ring == number)
                self.assertEqual(own.heard_by(rings[number], ends[0], ends[-1]), pieces)

    def test_one_ring(self):
        for ring in oracle.small_rings(4):
            for faults in oracle.mishaps((ring,)):
                self.check((ring,), faults)

    def test_two_and_three_rings(self):
        one, two = (0, (("feel", 0), ("cut",))), (1, (("bell", 0), ("feel", 0)))
        for rings in ((one, two), (one, two, CUTS)):
            for faults in itertools.islice(oracle.mishaps(rings), 0, None, 5):
                self.check(rings, faults)

    def test_sections(self):
        for ring in oracle.small_rings(5):
            rows = oracle.items_by_section(ring)
            told = [tuple(at for kind, at in row if kind == "piece") for row in rows]
            self.assertEqual(own.sections_of(ring), told)
            for number, row in enumerate(rows):
                for kind, gap in row:
                    if kind == "gap":
                        self.assertEqual(own.section_of((ring,), (0, gap)), number)

    def test_the_greatest_ring(self):
        pieces = (("feel", 0), ("cut",), ("cut",), ("feel", 1), ("feel", 1), ("bell", 0), ("cut",), ("feel", 2),
                  ("cut",), ("bell", 0))
        rings = ((0, pieces), (0, pieces[::-1]), (1, pieces))
        ways = oracle.all_gaps(rings)
        for gaps in itertools.combinations(ways[::2], 4):
            words = ["break" if (gap[1] * 7 + number) % 3 else "short" for number, gap in enumerate(gaps)]
            self.check(rings, tuple(sorted(zip(words, gaps))))
