"""Lots of faults [5]."""

import unittest

from secondknock import faults as own
from secondknock import rings
from secondknock.errors import NoGap, NoRing, NoSpot, TooMany, Unfit
from tests import oracle
from tests.samples import crack, hall, short
from tests.styles import StyledCase

CUTS = (0, (("cut",), ("cut",)))
LONE = (1, (("feel", 3), ("bell", 0)))
THREE = (hall, LONE, CUTS)
TEN = (0, (("feel", 0), ("feel", 1), ("cut",), ("feel", 2), ("bell", 0), ("bell", 0), ("cut",), ("feel", 3),
           ("cut",), ("feel", 4)))
GREAT = (TEN, (1, TEN[1][::-1]), (0, TEN[1][3:] + TEN[1][:3]))


class Ordinary(StyledCase):
    def test_mishaps_between(self):
        self.told(1, own.mishaps_between, hall, short, short)
        self.told(3, own.mishaps_between, hall, ("break", (0, 2)), short)
        self.told(1, own.mishaps_between, hall, crack, short)
        self.told(0, own.mishaps_between, hall, short, crack)
        self.told(0, own.mishaps_between, hall, short, ("break", (0, 4)))
        self.told(729, own.mishaps_between, hall, ("break", (5, 0)), ("short", (5, 7)))
        self.told(0, own.mishaps_between, LONE, ("break", (0, 0)), ("break", (0, 3)))
        self.told(3 ** 9, own.mishaps_between, TEN, ("short", (0, 0)), ("short", (0, 10)))

    def test_heard_counts(self):
        self.told([((), 27)], own.heard_counts, CUTS)
        self.told([((), 19), ((0,), 2), ((0, 1), 4), ((1,), 2)], own.heard_counts, LONE)
        self.assertEqual(sum(many for _, many in own.heard_counts(TEN)), 3 ** 11)

    def test_mishaps_alike(self):
        self.told(27 * 4, own.mishaps_alike, (LONE, CUTS), ())
        self.told(27 * 2, own.mishaps_alike, (LONE, CUTS), (("break", (0, 1)), ("short", (0, 2))))

    def test_plain_faults(self):
        faults = (("break", (1, 1)), ("short", (0, 1)), ("short", (0, 2)), ("short", (1, 2)))
        self.told((("break", (1, 1)), ("break", (1, 2))), own.plain_faults, (CUTS, LONE), faults)
        self.told((), own.plain_faults, (CUTS,), (("break", (0, 0)), ("short", (0, 2))))
        self.told((("short", (1, 0)),), own.plain_faults, (CUTS, LONE), (("break", (1, 0)), ("break", (1, 2))))

    def test_mishap_for(self):
        self.told((("break", (1, 1)), ("break", (1, 2))), own.mishap_for, THREE, 1, (0,))
        self.told((("short", (1, 0)),), own.mishap_for, THREE, 1, ())
        self.told((), own.mishap_for, THREE, 2, ())
        self.told(None, own.mishap_for, THREE, 2, (0,))
        self.told(None, own.mishap_for, THREE, 0, (0, 1))
        self.told(None, own.mishap_for, THREE, 1, (0, 1, 99))


class Bringing(StyledCase):
    def test_brought_back_and_taken_away(self):
        self.told(((0, 2),), own.brought_back, THREE, (short,), crack)
        self.told((), own.taken_away, THREE, (short,), crack)
        self.told(((0, 3), (0, 4)), own.taken_away, THREE, (crack,), short)
        self.told((), own.brought_back, THREE, (), crack)
        self.told((), own.taken_away, THREE, (crack,), ("break", (1, 0)))
        self.told(((1, 0), (1, 1)), own.taken_away, THREE, (crack,), ("short", (1, 1)))

    def test_bringers(self):
        self.told((), own.bringers, THREE, ())
        self.told((("break", (0, 3)),), own.bringers, THREE, (short,))
        self.told((("break", (0, 3)), ("break", (1, 1))), own.bringers, THREE, (short, ("short", (1, 2))))
        self.told((), own.bringers, THREE, (crack,))

    def test_errors(self):
        for function in (own.brought_back, own.taken_away):
            self.raises(NoGap((0, 8)), function, THREE, (short,), ("break", (0, 8)))
            self.raises(NoGap((3, 0)), function, THREE, (short,), ("break", (3, 0)))
            self.raises(Unfit(), function, THREE, (short,), short)
            self.raises(Unfit(), function, THREE, (short,), ("break", (0, 4)))


class Deaf(StyledCase):
    SPOTS = ((0, 2), (0, 3), (0, 6))

    def test_least_heard(self):
        for many, fewest in enumerate((3, 1, 0, 0, 0)):
            self.told(fewest, own.least_heard, THREE, self.SPOTS, many)
        self.told(0, own.least_heard, THREE, (), 3)
        self.told(0, own.least_heard, THREE, ((0, 1),), 0)
        self.told(8, own.least_heard, GREAT, oracle.heard(GREAT, ())[:8], 0)

    def test_worst_mishaps(self):
        for many in range(5):
            worst = own.worst_mishap(THREE, self.SPOTS, many)
            self.told(worst, own.worst_mishap, THREE, self.SPOTS, many)
            self.things([worst], [(("break", (0, 9)),), (("break", (0, 0)),) * 2], own.is_worst_mishap, THREE,
                        self.SPOTS, many)
        self.told(False, own.is_worst_mishap, THREE, self.SPOTS, 1, (crack,))
        self.told(False, own.is_worst_mishap, THREE, self.SPOTS, 1, [short])
        self.told(False, own.is_worst_mishap, THREE, self.SPOTS, 0, (short,))
        self.told(True, own.is_worst_mishap, THREE, self.SPOTS, 1, (("short", (0, 5)),))
        more = (("break", (1, 0)), ("short", (0, 2)), ("short", (0, 6)))
        self.told(True, own.is_worst_mishap, THREE, self.SPOTS, 3, more)
        self.told(False, own.is_worst_mishap, THREE, self.SPOTS, 2, more)

    def test_most_heard(self):
        for many, most in ((0, 3), (1, 3), (7, 3), (13, 1), (14, 0), (15, None), (10 ** 6, None)):
            self.told(most, own.most_heard, THREE, self.SPOTS, many)

    def test_least_deaf(self):
        self.told(0, own.deaf_count, THREE, self.SPOTS, 0)
        self.told([], own.least_deaf, THREE, self.SPOTS, 0)
        self.told(1, own.deaf_count, THREE, self.SPOTS, 4)
        self.told([()], own.least_deaf, THREE, self.SPOTS, 4)
        self.told([()], own.least_deaf, THREE, (), 1)
        self.told(37, own.deaf_count, THREE, self.SPOTS, 2)
        told = own.least_deaf(THREE, self.SPOTS, 2)
        self.assertEqual(len(told), 37)
        self.told(told, own.least_deaf, THREE, self.SPOTS, 2)

    def test_too_many(self):
        spots = oracle.heard(GREAT, ())[:6]
        self.assertGreater(own.deaf_count(GREAT, oracle.heard(GREAT, ()), 5), 400)
        self.raises(TooMany(), own.least_deaf, GREAT, oracle.heard(GREAT, ()), 5)
        self.assertIsInstance(own.deaf_count(GREAT, spots, 1), int)

    def test_just_four_hundred(self):
        feel, cut = ("feel", 0), ("cut",)
        just = (
            (0, (feel, feel, cut, feel, feel, feel)),
            (0, (cut, cut, feel, feel, feel, cut, feel, feel)),
            (0, (feel, feel, cut, feel, feel, feel, feel, cut, feel, feel)),
        )
        spots = ((0, 1), (0, 3), (0, 5), (1, 0), (2, 0), (2, 2), (2, 9))
        self.told(400, own.deaf_count, just, spots, 1)
        self.assertEqual(len(set(own.least_deaf(just, spots, 1))), 400)
        more = ((0, (cut, feel, feel, feel, feel, feel, cut, cut, feel)), (0, (feel,) * 4))
        spots = ((0, 1), (0, 2), (0, 4), (0, 5), (1, 2), (1, 3))
        self.told(401, own.deaf_count, more, spots, 4)
        self.raises(TooMany(), own.least_deaf, more, spots, 4)

    def test_no_spot_is_the_first(self):
        spots = ((0, 2), (0, 7), (1, 2), (4, 0))
        for function in (own.least_heard, own.worst_mishap, own.most_heard, own.deaf_count, own.least_deaf):
            self.raises(NoSpot((0, 7)), function, THREE, spots, 1)
            self.raises(NoSpot((-1, 0)), function, THREE, ((-1, 0),), 1)
        self.raises(NoSpot((0, 7)), own.is_worst_mishap, THREE, spots, 1, ())

    def test_no_ring(self):
        for number in (3, -1):
            self.raises(NoRing(number), own.mishap_for, THREE, number, ())


class ForAll(unittest.TestCase):
    """Against all mishaps of small RINGS."""

    def pieces(self, ring, faults):
        return tuple(at for _, at in oracle.heard((ring,), faults))

    def test_counts_of_one_ring(self):
        for ring in oracle.small_rings(3):
            table, pairs = {}, {}
            for faults in oracle.mishaps((ring,)):
                told = self.pieces(ring, faults)
                table.setdefault(told, []).append(faults)
                ends = sorted(faults, key=lambda fault: fault[1])
                if ends:
                    pairs[(ends[0], ends[-1])] = pairs.get((ends[0], ends[-1]), 0) + 1
            self.assertEqual(own.heard_counts(ring), sorted((told, len(row)) for told, row in table.items()))
            single = [(word, gap) for word in ("break", "short") for gap in oracle.all_gaps((ring,))]
            for near in single:
                for far in single:
                    self.assertEqual(own.mishaps_between(ring, near, far), pairs.get((near, far), 0))
            for many in range(2 ** len(ring[1])):
                wanted = tuple(at for at in range(len(ring[1])) if many >> at & 1)
                fewest = min(table.get(wanted, [None]), key=lambda row: row and (len(row), row))
                self.assertEqual(own.mishap_for((ring,), 0, wanted), fewest)

    def test_mishaps_alike_on_two_rings(self):
        for one in oracle.small_rings(2):
            pair = (one, LONE)
            table = {}
            for faults in oracle.mishaps(pair):
                table.setdefault(oracle.heard(pair, faults), []).append(faults)
            for row in table.values():
                fewest = min(row, key=lambda faults: (len(faults), faults))
                # Each mishap leaves the same heard as one of at most two FAULTS a RING.
                for number in (0, 1):
                    self.assertLessEqual(len([fault for fault in fewest if fault[1][0] == number]), 2)
                for faults in row[::7]:
                    self.assertEqual(own.mishaps_alike(pair, faults), len(row))
                    self.assertEqual(own.plain_faults(pair, faults), fewest)

    def brings(self, rings_, faults, fault):
        """By the guarantee: a break, a short farther on in its section, a PIECE ahead of it there."""
        word, (number, gap) = fault
        if word != "break":
            return False
        there = {own_gap[1]: kind for kind, own_gap in faults if own_gap[0] == number}
        section = next(row for row in oracle.items_by_section(rings_[number]) if ("gap", gap) in row)
        for row, ends in ((section, sorted(there)), (section[::-1], sorted(there)[::-1])):
            if not ends or there[ends[0]] != "short" or ("gap", ends[0]) not in row:
                continue
            at = row.index(("gap", gap))
            if at < row.index(("gap", ends[0])) and any(kind == "piece" for kind, _ in row[:at]):
                return True
        return False

    def test_bringing_back(self):
        for ring in oracle.small_rings(3):
            all_faults = [(word, gap) for word in ("break", "short") for gap in oracle.all_gaps((ring,))]
            for faults in oracle.mishaps((ring,)):
                taken = [gap for _, gap in faults]
                there = set(oracle.heard((ring,), faults))
                bringers = []
                for fault in all_faults:
                    if fault[1] in taken:
                        continue
                    with_it = set(oracle.heard((ring,), faults + (fault,)))
                    self.assertEqual(own.brought_back((ring,), faults, fault), tuple(sorted(with_it - there)))
                    self.assertEqual(own.taken_away((ring,), faults, fault), tuple(sorted(there - with_it)))
                    self.assertEqual(bool(with_it - there), self.brings((ring,), faults, fault))
                    if with_it - there:
                        bringers.append(fault)
                self.assertEqual(own.bringers((ring,), faults), tuple(sorted(bringers)))

    def deaf_by_words(self, rings_, spots, many):
        deaf = {
            faults for faults in oracle.mishaps(rings_)
            if len([spot for spot in oracle.heard(rings_, faults) if spot in spots]) < many
        }
        return sorted(row for row in deaf if not any(less in deaf for less in oracle.lesser_sets(row)))

    def check_lots(self, rings_, spots):
        table = {}
        for faults in oracle.mishaps(rings_):
            told = len([spot for spot in oracle.heard(rings_, faults) if spot in spots])
            table.setdefault(len(faults), []).append((told, faults))
        for many in range(len(oracle.all_gaps(rings_)) + 2):
            fewest = min(told for size in table if size <= many for told, _ in table[size])
            self.assertEqual(own.least_heard(rings_, spots, many), fewest)
            worst = own.worst_mishap(rings_, spots, many)
            self.assertTrue(own.is_worst_mishap(rings_, spots, many, worst))
            self.assertIn((fewest, worst), table[len(worst)])
            self.assertLessEqual(len(worst), many)
            most = max(table[many])[0] if many in table else None
            self.assertEqual(own.most_heard(rings_, spots, many), most)
            for told, faults in table.get(many, [])[::5]:
                self.assertEqual(own.is_worst_mishap(rings_, spots, many, faults), told == fewest)
        for many in range(len(spots) + 2):
            least = self.deaf_by_words(rings_, spots, many)
            self.assertEqual(own.deaf_count(rings_, spots, many), len(least))
            self.assertEqual(own.least_deaf(rings_, spots, many), least)

    def test_lots_on_one_ring(self):
        for ring in oracle.small_rings(3):
            spots = tuple((0, at) for at in range(len(ring[1])))
            for told in (spots, spots[1:], spots[:1]):
                self.check_lots((ring,), told)

    def test_lots_on_more_rings(self):
        one, two = (0, (("feel", 0), ("cut",))), (1, (("feel", 0), ("bell", 0)))
        self.check_lots((one, two), ((0, 0), (1, 0), (1, 1)))
        self.check_lots((two, two), ((0, 0), (0, 1), (1, 0)))
        self.check_lots((CUTS, (0, (("feel", 0),)), (0, (("feel", 0),))), ((0, 1), (1, 0), (2, 0)))

    def test_heard_is_of_the_first_faults(self):
        self.assertEqual(rings.heard_by(TEN, ("break", (0, 1)), ("short", (0, 10))), (0,))


class Greatest(unittest.TestCase):
    """At the bounds the counts are right, too: those with fewest FAULTS are counted by trying all."""

    def test_three_rings_of_ten(self):
        spots = ((0, 0), (0, 3), (1, 0), (1, 2), (2, 6))
        told = own.least_deaf(GREAT, spots[:2], 1)
        self.assertEqual(len(told), own.deaf_count(GREAT, spots[:2], 1))
        for faults in told:
            self.assertEqual(oracle.heard(GREAT, faults) and
                             [spot for spot in oracle.heard(GREAT, faults) if spot in spots[:2]], [])
        self.assertEqual(own.least_heard(GREAT, spots, 4), 1)
        self.assertEqual(own.most_heard(GREAT, spots, 33), 0)
        self.assertEqual(own.mishaps_alike(GREAT, ()) % 2, 1)
