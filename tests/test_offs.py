"""Put-offs and mixed lots [17]."""

import itertools
import random
import unittest

from secondknock import offs as own
from secondknock.errors import NoOut, NoPlace, NoZone, TooMany, Unfit
from secondknock.forms import form_at
from secondknock.rising import out_form
from tests import oracle
from tests.samples import bare, barred, crack, inn, keep, loft, risen, short, some_begins, some_deed, some_house, tower
from tests.styles import StyledCase

A, B, C, D = (0, 0), (0, 2), (0, 3), (0, 6)
QUICK = ((0, 1, 2), (1, 0, 2), (1, 2, 3), (2, 1, 3))
LOBBY = (inn[0], (((A, B, D), 1, None),), ((0, "any", (0,), 0, (), 0, 0, 0),), ("bell",), 1)
LATE = ((A, 5), (B, 1), (D, 2))
# A ZONE of knocks 2 with two SPOTS on two RINGS; bells of one OUT on both.
WIRE = (0, (("feel", 0), ("bell", 0)))
PAIR = ((WIRE, WIRE), ((((0, 0), (1, 0)), 2, None),), ((0, "any", (0,), 1, (), 0, 0, 0),), ("bell", "bell", "door"), 1)
# The RING of cut-offs alone has no part in anything.
CUTS = (bare[0], (), (), ("bell",), 1)


def dumb(house, zone, faults, offs):
    spots, knocks, _ = house[1][zone]
    there = oracle.heard(house[0], faults)
    return sum(spot in there and spot not in offs for spot in spots) < knocks


def is_least(house, zone, faults, offs):
    if not dumb(house, zone, faults, offs):
        return False
    lesser = [(tuple(fault for fault in faults if fault != own_fault), offs) for own_fault in faults]
    lesser += [(faults, tuple(spot for spot in offs if spot != own_spot)) for own_spot in offs]
    return not any(dumb(house, zone, *lot) for lot in lesser)


def single_faults(house):
    return sorted((word, gap) for gap in oracle.all_gaps(house[0]) for word in ("break", "short"))


class Lots(StyledCase):
    def test_dumb_by(self):
        for zone, faults, offs, told in (
            (1, (crack, short), (), False), (1, (short,), (), True), (1, (), (B,), False), (1, (), (B, C), True),
            (0, (("short", (0, 0)),), (B,), True), (0, (("short", (0, 0)),), (), False), (0, (), (), False),
            (1, (crack,), (A,), False),
        ):
            self.told(told, own.dumb_by, inn, zone, (faults, offs))
        self.told(True, own.dumb_by, PAIR, 0, ((), ((1, 0),)))

    def test_least_lots(self):
        self.assertEqual(len(own.least_lots(inn, 1)), 66)
        one = (((0, (("feel", 0),)),), ((((0, 0),), 1, None),), (), (), 1)
        # The short on either GAP, both breaks, the put-off.
        self.told(
            [((), ((0, 0),)), ((("break", (0, 0)), ("break", (0, 1))), ()), ((("short", (0, 0)),), ()), ((("short", (0, 1)),), ())],
            own.least_lots, one, 0,
        )
        self.told(((0, 1, 1), (1, 0, 2), (2, 0, 1)), own.lot_counts, one, 0)
        # knocks 2 of two: each SPOT for itself.
        told = own.least_lots(PAIR, 0)
        self.told(told, own.least_lots, PAIR, 0)
        self.assertEqual([lot for lot in told if lot[1]], [((), ((0, 0),)), ((), ((1, 0),))])
        self.assertTrue(all(len({gap[0] for _, gap in faults}) <= 1 for faults, _ in told))

    def test_is_least_lot(self):
        good = [((), (B, C)), ((), (B, D)), ((short,), ()), ((("short", (0, 6)),), (B,))]
        bad = [
            ((), ()), ((), (B,)), ((), (B, C, D)), ((short,), (D,)), ((crack, short), ()), ((short,), (A,)),
            ((), (C, B)), ((), [B, C]), [(), (B, C)], ((short, crack), ()), ((("short", (0, 9)),), ()), ((), (B, (0, 4))),
            ((), (B, C), ()), ((short,),), ((), (B, (0, 1))), ((("break", (0, 4)), short), ()), ((None,), ()), ((), None),
            ((), ((0, True), B)), (((), B), C),
        ]
        self.things(good, bad, own.is_least_lot, inn, 1)
        self.things([((("short", (0, 0)),), (B,)), ((), (A, B))], good[:2], own.is_least_lot, inn, 0)

    def test_lot_counts(self):
        self.told(((0, 2, 3), (1, 0, 4), (1, 1, 4), (2, 0, 33), (2, 1, 22)), own.lot_counts, inn, 1)

    def test_too_many(self):
        house = (inn[0] * 2, (((A, B, C, D, (1, 0), (1, 2), (1, 3), (1, 6)), 2, None),)) + inn[2:]
        house = house[:2] + ((),) + house[3:]
        self.raises(TooMany(), own.least_lots, house, 0)
        # Counted without a limit.
        self.assertGreater(sum(many for _, _, many in own.lot_counts(house, 0)), 400)
        self.assertEqual([row for row in own.lot_counts(house, 0) if row[0] == 0], [(0, 7, 8)])

    def test_one_more(self):
        self.told((("short", (0, 2)), ("short", (0, 3)), ("short", (0, 4)), ("short", (0, 5))), own.one_more, inn, 1, ())
        self.assertEqual(own.one_more(inn, 1, (B,))[4:], (("short", (0, 6)), ("short", (0, 7))))
        # Dumb without any: by each.
        self.told(tuple(single_faults(inn)), own.one_more, inn, 0, (A, B))
        self.told(tuple(single_faults(tower)), own.one_more, tower, 2, (B,))
        self.told((), own.one_more, LOBBY, 0, ())

    def test_spare_offs(self):
        self.told([], own.spare_offs, inn)
        self.told([(A,), (B,), (D,)], own.spare_offs, LOBBY)
        self.told([()], own.spare_offs, CUTS)
        # Not even () may, and () alone may.
        self.told([], own.spare_offs, PAIR)
        two = (LOBBY[0], (((A, B), 1, None),)) + LOBBY[2:]
        self.told([()], own.spare_offs, two)

    def test_bell_lots(self):
        self.assertEqual(len(own.bell_lots(inn, 0)), 39)
        # A door; a bell on no RING; on two RINGS.
        self.told([()], own.bell_lots, inn, 1)
        self.told([()], own.bell_lots, PAIR, 1)
        self.told([()], own.bell_lots, PAIR, 2)
        told = own.bell_lots(PAIR, 0)
        # On each RING three shorts, two pairs of breaks.
        self.assertEqual(len(told), 5 * 5)
        self.assertTrue(all({gap[0] for _, gap in faults} == {0, 1} for faults in told))
        self.raises(TooMany(), own.bell_lots, (inn[0] * 2,) + inn[1:], 0)


class Counting(StyledCase):
    def test_counts_at(self):
        harm, heal = ("harm", short), ("heal", short)
        deeds = ((0, harm), (2, ("harm", crack)))
        self.told(((A, 5), (B, 2), (D, 2)), own.counts_at, inn, LATE, deeds)
        self.told(LATE, own.counts_at, inn, LATE, ())
        self.told((), own.counts_at, inn, (), deeds)
        # However late; never; what counts once has counted, whatever comes.
        self.told(((A, 9), (D, 2)), own.counts_at, inn, LATE, ((0, ("off", A)), (0, harm), (9, ("on", A)), (9, ("off", D))))
        self.told(((A, 5), (B, 190), (D, 2)), own.counts_at, inn, LATE, ((1, harm), (190, heal)))
        self.told(LATE, own.counts_at, inn, LATE, ((2, ("back",)), (3, ("more", 0)), (4, ("quiet",)), (6, harm)))
        # Off and on at one tick.
        self.told(LATE, own.counts_at, inn, LATE, ((1, ("off", B)), (1, ("on", B))))

    def test_late_pairs(self):
        told = own.late_pairs(inn, 0, LATE, 8)
        self.told(told, own.late_pairs, inn, 0, LATE, 8)
        self.assertEqual(told[:2], ((("short", (0, 0)), B), (("short", (0, 1)), B)))
        # Not on at all by the BEGINS; on at no tick so early; an OUT without LINES.
        self.told((), own.late_pairs, inn, 0, (), 8)
        self.told((), own.late_pairs, inn, 0, LATE, 3)
        self.told((), own.late_pairs, tower, 1, LATE, 200)


class Unfelt(StyledCase):
    def test_is_unfelt(self):
        self.told(False, own.is_unfelt, inn, 3, QUICK, (C,))
        self.told(True, own.is_unfelt, inn, 3, QUICK, ())
        for offs, told in (((A,), True), ((D,), True), ((B,), False), ((A, D), False)):
            self.told(told, own.is_unfelt, LOBBY, 3, QUICK, offs)
        # Feelers of no ZONE are never felt; without ways each place burns alone.
        self.told(True, own.is_unfelt, LOBBY, 3, QUICK, (C,))
        self.told(True, own.is_unfelt, LOBBY, 3, (), (A, C))
        self.told(False, own.is_unfelt, LOBBY, 3, (), (A, D))

    def test_unfelt_offs(self):
        self.told([(A,), (D,)], own.unfelt_offs, LOBBY, 3, QUICK)
        self.told([()], own.unfelt_offs, CUTS, 3, QUICK)
        self.told([()], own.unfelt_offs, PAIR, 1, ())
        # A place that no feeler has: nothing speaks by a FIRE from there.
        self.told([(A,), (D,)], own.unfelt_offs, LOBBY, 5, QUICK + ((3, 4, 1),))

    def test_no_place(self):
        for places, least in ((1, 1), (2, 2)):
            self.raises(NoPlace(least), own.is_unfelt, inn, places, (), (A,))
            self.raises(NoPlace(least), own.unfelt_offs, inn, places, ())
        self.raises(NoPlace(7), own.is_unfelt, tower, 5, (), ())
        self.raises(NoPlace(7), own.unfelt_offs, tower, 7, ())
        # Of a feeler in no ZONE, too.
        self.raises(NoPlace(2), own.unfelt_offs, (LOBBY[0], (((A, D), 1, None),)) + LOBBY[2:], 2, ())


class Errors(StyledCase):
    def test_what_is_not_there(self):
        for number in (-1, 2, 9):
            self.raises(NoZone(number), own.dumb_by, inn, number, ((), ()))
            self.raises(NoZone(number), own.least_lots, inn, number)
            self.raises(NoZone(number), own.is_least_lot, inn, number, None)
            self.raises(NoZone(number), own.lot_counts, inn, number)
            self.raises(NoZone(number), own.one_more, inn, number, ())
            self.raises(NoOut(number), own.bell_lots, inn, number)
            self.raises(NoOut(number), own.late_pairs, inn, number, LATE, 8)
        for house in (barred, loft, keep):
            self.raises(Unfit(), own.late_pairs, house, 9, LATE, 8)


class ForAll(unittest.TestCase):
    def houses(self, seed, many, gaps):
        """HOUSES with at most so many GAPS, and some ZONE."""
        dice = random.Random(seed)
        while many:
            house = some_house(dice)
            if house[1] and len(oracle.all_gaps(house[0])) <= gaps:
                many -= 1
                yield dice, house

    def dense_houses(self, seed, many):
        """Feelers with cut-offs between, in two ZONES, LINES without unless."""
        dice = random.Random(seed)
        for _ in range(many):
            panel = (0, (("feel", 0), ("cut",), ("feel", 1), ("feel", 2), ("cut",), ("feel", 3)))
            spots = ((0, 0), (0, 2), (0, 3), (0, 5))
            zones = []
            for _ in range(2):
                some = tuple(sorted(dice.sample(spots, dice.randint(2, 4))))
                zones.append((some, dice.choice((1, 1, 2)), None))
            lines = [
                (0, dice.choice(("any", "all")), dice.choice(((0,), (1,), (0, 1))), dice.randint(0, 3), (), 0, 0, 0)
                for _ in range(2)
            ]
            yield dice, ((panel,), tuple(zones), tuple(lines), ("door",), 1)

    def test_lots(self):
        sizes = set()
        for dice, house in self.houses(111, 20, 6):
            spots = oracle.spots_of_feelers(house)
            for zone in range(len(house[1])):
                found = [
                    (faults, offs) for faults in oracle.mishaps(house[0]) for offs in oracle.all_subsets(spots)
                    if is_least(house, zone, faults, offs)
                ]
                self.assertEqual(own.least_lots(house, zone), sorted(found))
                counts = {}
                for faults, offs in found:
                    size = (len(faults), len(offs))
                    counts[size] = counts.get(size, 0) + 1
                    self.assertTrue(own.is_least_lot(house, zone, (faults, offs)))
                self.assertEqual(own.lot_counts(house, zone), tuple(size + (counts[size],) for size in sorted(counts)))
                sizes |= set(counts)
                rows = [
                    (faults, offs) for faults in itertools.islice(oracle.mishaps(house[0]), 0, None, 7)
                    for offs in oracle.all_subsets(spots)
                ]
                for faults, offs in dice.sample(rows, min(40, len(rows))):
                    self.assertEqual(own.dumb_by(house, zone, (faults, offs)), dumb(house, zone, faults, offs))
                    self.assertEqual(own.is_least_lot(house, zone, (faults, offs)), (faults, offs) in found)
        self.assertLessEqual({(0, 1), (0, 2), (1, 0), (1, 1), (2, 0), (2, 1)}, sizes)

    def test_lots_of_one_ring(self):
        """RINGS with cut-offs, where FAULTS may bring back; ZONES that ask two."""
        dice = random.Random(112)
        for _ in range(8):
            pieces = tuple(dice.choice((("feel", 0), ("feel", 1), ("cut",))) for _ in range(5))
            spots = tuple((0, at) for at, piece in enumerate(pieces) if piece[0] == "feel")
            if len(spots) < 2:
                continue
            for knocks in (1, 2):
                house = (((0, pieces),), ((spots, knocks, None),), (), (), 1)
                found = [
                    (faults, offs) for faults in oracle.mishaps(house[0]) for offs in oracle.all_subsets(spots)
                    if is_least(house, 0, faults, offs)
                ]
                self.assertEqual(sum(many for _, _, many in own.lot_counts(house, 0)), len(found))
                if len(found) <= 400:
                    self.assertEqual(own.least_lots(house, 0), sorted(found))

    def test_single_faults(self):
        spare = 0
        for dice, house in itertools.chain(self.houses(113, 60, 14), self.dense_houses(118, 30)):
            spots = tuple(sorted({spot for zone in house[1] for spot in zone[0]}))
            singles = single_faults(house)
            fit = []
            for offs in oracle.all_subsets(spots):
                lots = [()] + [(fault,) for fault in singles]
                if not any(dumb(house, zone, faults, offs) for zone in range(len(house[1])) for faults in lots):
                    fit.append(offs)
            self.assertEqual(own.spare_offs(house), oracle.greatest_of(fit))
            spare += len(fit) > 1
            for zone in range(len(house[1])):
                offs = tuple(spot for spot in oracle.spots_of_feelers(house) if dice.randint(0, 3) == 0)
                told = tuple(fault for fault in singles if dumb(house, zone, (fault,), offs))
                self.assertEqual(own.one_more(house, zone, offs), told)
        self.assertGreater(spare, 10)

    def test_bell_lots(self):
        dice = random.Random(114)
        many = 0
        while many < 40:
            house = some_house(dice)
            if len(oracle.all_gaps(house[0])) > 7:
                continue
            many += 1
            for out in range(len(house[3])):
                bells = [
                    (number, at) for number, ring in enumerate(house[0]) for at, piece in enumerate(ring[1])
                    if piece == ("bell", out)
                ]
                deaf = {
                    faults: not set(bells) & set(oracle.heard(house[0], faults)) for faults in oracle.mishaps(house[0])
                }
                found = [
                    faults for faults in deaf
                    if deaf[faults] and not any(deaf[tuple(f for f in faults if f != fault)] for fault in faults)
                ]
                self.assertEqual(own.bell_lots(house, out), sorted(found))

    def test_counts_and_plays(self):
        dice = random.Random(115)
        seen = 0
        for _ in range(300):
            house = risen(some_house(dice))
            begins = some_begins(dice, oracle.spots_of_feelers(house), 8)
            deeds = [own_deed for own_deed in (some_deed(dice, house) for _ in range(8)) if own_deed]
            deeds = tuple(zip(sorted(dice.randrange(10) for _ in deeds), deeds))
            rows = oracle.course_of((house, oracle.speech_of(begins), deeds, 20))
            first = {}
            for tick, row in enumerate(rows):
                for spot in row["counted"]:
                    first.setdefault(spot, tick)
            told = own.counts_at(house, begins, deeds)
            self.assertEqual(told, tuple(sorted(first.items())))
            seen += told != begins
            # Without back, more, part, join an OUT is on first at its FORM's value.
            deeds = tuple(pair for pair in deeds if pair[1][0] not in ("back", "more", "part", "join"))
            ticks = own.counts_at(house, begins, deeds)
            outs = oracle.first_on(house, begins, 30, deeds)[2]
            for out, tick in enumerate(outs):
                self.assertEqual(form_at(out_form(house, out, ()), ticks), tick)
        self.assertGreater(seen, 30)

    def test_late_pairs(self):
        seen = 0
        for dice, house in itertools.chain(self.houses(116, 30, 8), self.dense_houses(119, 20)):
            house = risen(house)
            begins = some_begins(dice, oracle.spots_of_feelers(house), 4)
            spots = sorted({spot for zone in house[1] for spot in zone[0]})
            tick = dice.randint(0, 9)
            lots = [((), ())] + [((fault,), ()) for fault in single_faults(house)] + [((), (spot,)) for spot in spots]
            lots += [((fault,), (spot,)) for fault in single_faults(house) for spot in spots]
            on = {}
            for faults, offs in lots:
                deeds = tuple((0, ("harm", fault)) for fault in faults) + tuple((0, ("off", spot)) for spot in offs)
                on[(faults, offs)] = oracle.course_of((house, oracle.speech_of(begins), deeds, tick + 1))[-1]["on"]
            for out in range(len(house[3])):
                told = tuple(
                    (fault, spot) for fault in single_faults(house) for spot in spots
                    if out not in on[((fault,), (spot,))] and out in on[((fault,), ())] and out in on[((), (spot,))]
                )
                self.assertEqual(own.late_pairs(house, out, begins, tick), told)
                seen += told != ()
        self.assertGreater(seen, 5)

    def test_unfelt(self):
        greatest = 0
        for dice, house in self.houses(117, 70, 20):
            places = 4 + dice.randint(0, 1)
            pairs = [(one, other) for one in range(places) for other in range(places) if one != other]
            ways = tuple(pair + (dice.randint(1, 3),) for pair in sorted(dice.sample(pairs, dice.randint(0, 8))))
            rows = []
            for start in range(places):
                ticks = oracle.arrivals(places, ways, start)
                rows.append([
                    ((number, at), ticks[piece[1]]) for number, ring in enumerate(house[0])
                    for at, piece in enumerate(ring[1]) if piece[0] == "feel" and ticks[piece[1]] is not None
                ])
            plain = [oracle.first_on(house, row, 12)[0] for row in rows]
            spots = oracle.spots_of_feelers(house)
            in_zones = tuple(sorted({spot for zone in house[1] for spot in zone[0]}))

            def unfelt(offs):
                return plain == [
                    oracle.first_on(house, [pair for pair in row if pair[0] not in offs], 12)[0] for row in rows
                ]

            if len(in_zones) <= 4:
                fit = [offs for offs in oracle.all_subsets(in_zones) if unfelt(offs)]
                self.assertEqual(own.unfelt_offs(house, places, ways), oracle.greatest_of(fit))
                greatest += max(map(len, fit)) > 0
            offs = tuple(spot for spot in spots if dice.randint(0, 2) == 0)
            self.assertEqual(own.is_unfelt(house, places, ways, offs), unfelt(offs))
        self.assertGreater(greatest, 3)


class Greatest(unittest.TestCase):
    def test_eight_feelers_on_three_rings(self):
        pieces = tuple(("feel", at % 6) if at in (0, 4, 8) else ("cut",) if at in (2, 6) else ("bell", 0) for at in range(10))
        rings = ((0, pieces), (0, pieces[::-1]), (0, pieces))
        spots = tuple(
            (number, at) for number, ring in enumerate(rings) for at, piece in enumerate(ring[1]) if piece[0] == "feel"
        )[:8]
        for knocks in (1, 2):
            house = (rings, ((spots, knocks, None),), ((0, "any", (0,), 2, (), 0, 0, 0),), ("bell",), 1)
            counts = own.lot_counts(house, 0)
            # Of put-offs alone: as many as leave one less than knocks.
            self.assertEqual(counts[0], (0, 8 - knocks + 1, 1 if knocks == 1 else 8))
            self.assertGreater(sum(many for _, _, many in counts), 10 ** 6)
            self.assertRaises(TooMany, own.least_lots, house, 0)
            told = own.spare_offs(house)
            self.assertTrue(all(len(offs) >= 1 for offs in told))
            begins = tuple((spot, at) for at, spot in enumerate(spots))
            self.assertTrue(all(spot in spots for _, spot in own.late_pairs(house, 0, begins, 3)))
            ways = tuple((at, (at + 1) % 6, 20) for at in range(6))
            self.assertTrue(all(own.is_unfelt(house, 9, ways, offs) for offs in own.unfelt_offs(house, 9, ways)))
