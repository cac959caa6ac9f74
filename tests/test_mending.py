"""Mending [18]."""

import itertools
import random
import unittest

from secondknock import mending as own
from secondknock.errors import CanNot, NoSpot, TooMany, Unfit
from tests import oracle
from tests.samples import bare, crack, hall, inn, keep, short, some_house
from tests.styles import StyledCase

A, B, C, BELL, D = (0, 0), (0, 2), (0, 3), (0, 4), (0, 6)
MIDDLE, END = ("break", (0, 4)), ("short", (0, 5))
LONE = (1, (("feel", 3), ("bell", 0)))
CUTS = (0, (("cut",), ("cut",)))
TWO = (hall, LONE, CUTS)
# Shorts alone, breaks alone, one of each in two RINGS.
SHORTS = (("short", (0, 0)), ("short", (0, 3)), ("short", (0, 7)))
BREAKS = (("break", (0, 0)), ("break", (0, 3)), ("break", (0, 4)))
SIX = (("break", (0, 2)), ("break", (0, 4)), ("break", (1, 1)), ("short", (0, 3)), ("short", (0, 5)), ("short", (1, 2)))
SEVEN = SIX + (("short", (2, 0)),)


def all_orders(faults):
    return sorted(itertools.permutations(faults))


def left(faults, healed):
    return tuple(fault for fault in faults if fault not in healed)


def takes(rings, faults, fault):
    after = oracle.heard(rings, left(faults, (fault,)))
    return tuple(spot for spot in oracle.heard(rings, faults) if spot not in after)


def is_safe(rings, faults, order):
    return all(takes(rings, left(faults, order[:at]), fault) == () for at, fault in enumerate(order))


class Ordinary(StyledCase):
    def test_one_healing(self):
        self.told((B,), own.heal_takes, (hall,), (crack, short), crack)
        self.told((), own.heal_takes, (hall,), (crack, short), short)
        self.told((), own.heal_gives, (hall,), (crack, short), crack)
        self.told((C, BELL), own.heal_gives, (hall,), (crack, short), short)
        self.told((short,), own.safe_heals, (hall,), (crack, short))
        # One FAULT; no FAULT; shorts alone; breaks alone.
        self.told((), own.heal_takes, TWO, (short,), short)
        self.told((B, C, BELL), own.heal_gives, TWO, (short,), short)
        self.told((), own.safe_heals, TWO, ())
        self.told(SHORTS, own.safe_heals, TWO, SHORTS)
        self.told(BREAKS, own.safe_heals, TWO, BREAKS)
        # Seen from B, too: the break nearer to B is ahead of the short.
        self.told((BELL,), own.heal_takes, (hall,), (MIDDLE, ("short", (0, 3))), MIDDLE)
        # With the short in another section nothing is lost.
        self.told((), own.heal_takes, (hall,), (crack, ("short", (0, 6))), crack)
        # A FAULT on a RING of cut-offs alone.
        cut = ("break", (2, 1))
        self.told((), own.heal_takes, TWO, (cut, short), cut)
        self.told((), own.heal_gives, TWO, (cut, short), cut)

    def test_heard_along(self):
        whole = (A, B, C, BELL, D)
        self.told(((A, B, D), whole, whole), own.heard_along, (hall,), (crack, short), (short, crack))
        self.told(((A, B, D), (A, D), whole), own.heard_along, (hall,), (crack, short), (crack, short))
        self.told((whole,), own.heard_along, (hall,), (), ())
        self.told(((),), own.heard_along, bare[0], (), ())

    def test_order_harm(self):
        self.told((0, (B,)), own.order_harm, (hall,), (crack, short), (crack, short))
        self.told(None, own.order_harm, (hall,), (crack, short), (short, crack))
        self.told(None, own.order_harm, (hall,), (), ())
        self.told((1, (B, C)), own.order_harm, (hall,), (crack, MIDDLE, END), (crack, MIDDLE, END))
        self.told(None, own.order_harm, (hall,), (crack, MIDDLE, END), (crack, END, MIDDLE))

    def test_is_safe_order(self):
        self.things([(short, crack)], [
            (crack, short), (short,), (short, crack, short), (short, short), [short, crack], (list(short), crack),
            (short, ("break", [0, 3])), (short, ("break", (False, 3))), (short, ("break", (0, 8))), (short, None),
            (), ("short", "break"), ((short, crack),),
        ], own.is_safe_order, (hall,), (crack, short))
        self.things([()], [(short,), ((),)], own.is_safe_order, (hall,), ())
        self.things(all_orders(SHORTS), [SHORTS[:2]], own.is_safe_order, TWO, SHORTS)

    def test_orders(self):
        self.told(4, own.count_orders, (hall,), (crack, MIDDLE, END))
        self.told((crack, END, MIDDLE), own.least_order, (hall,), (crack, MIDDLE, END))
        self.told([(short, crack)], own.safe_orders, (hall,), (crack, short))
        self.told(1, own.count_orders, TWO, ())
        self.told((), own.least_order, TWO, ())
        self.told([()], own.safe_orders, TWO, ())
        self.told(6, own.count_orders, TWO, BREAKS)
        self.told(BREAKS, own.least_order, TWO, BREAKS)
        self.told(all_orders(SHORTS), own.safe_orders, TWO, SHORTS)

    def test_any_order(self):
        for faults, told in (((), True), ((short,), True), (SHORTS, True), (BREAKS, True), ((crack, short), False),
                             ((crack, ("short", (0, 6))), True), ((crack, MIDDLE, END), False)):
            self.told(told, own.any_order, TWO, faults)

    def test_fewest_heals(self):
        self.told([(short,)], own.fewest_heals, (hall,), (crack, short), (C,))
        # Nothing is asked for, nothing is lost.
        self.told([()], own.fewest_heals, (hall,), (crack, short), ())
        self.told([()], own.fewest_heals, (hall,), (crack, short), (A, B))
        self.told([()], own.fewest_heals, (hall,), (), (A, BELL))
        # Each of two that lie beside is enough.
        self.told([(crack,), (MIDDLE,)], own.fewest_heals, (hall,), (crack, MIDDLE), (C,))
        self.told([(("short", (0, 0)), ("short", (0, 3)))], own.fewest_heals, TWO, SHORTS, (A, B))

    def test_soonest(self):
        self.told((1, (crack, END, MIDDLE)), own.soonest, (hall,), (crack, MIDDLE, END), (C,))
        self.told((0, (crack, END, MIDDLE)), own.soonest, (hall,), (crack, MIDDLE, END), ())
        self.told((0, ()), own.soonest, (hall,), (), (A,))
        self.told((1, (short, crack)), own.soonest, (hall,), (crack, short), (B, C))

    def test_zone_orders(self):
        self.told([(short, crack)], own.zone_orders, inn, (crack, short))
        self.told([(crack,)], own.zone_orders, inn, (crack,))
        self.told([()], own.zone_orders, inn, ())
        # Without ZONES all go; one that is dumb ahead may be dumb behind.
        self.told(all_orders(SHORTS), own.zone_orders, (TWO, (), (), ("bell",), 2), SHORTS)
        lone = ((hall,), (((B,), 1, None),), (), ("bell",), 1)
        self.told([(short, crack)], own.zone_orders, lone, (crack, short))
        pair = ((hall,), (((B, C), 2, None),), (), ("bell",), 1)
        self.told([(crack, short), (short, crack)], own.zone_orders, pair, (crack, short))


class Errors(StyledCase):
    def test_unfit(self):
        for fault in (short, ("short", (0, 3)), ("break", (0, 9)), ("short", (0, 8))):
            self.raises(Unfit(), own.heal_takes, (hall,), (crack,), fault)
            self.raises(Unfit(), own.heal_gives, (hall,), (crack,), fault)
        self.raises(Unfit(), own.heal_takes, (hall,), (), crack)
        for order in ((), (crack,), (crack, crack), (crack, short, short), (crack, END), (crack, None), (0, 1), ("a", "b")):
            self.raises(Unfit(), own.heard_along, (hall,), (crack, short), order)
            self.raises(Unfit(), own.order_harm, (hall,), (crack, short), order)
        self.raises(Unfit(), own.order_harm, (hall,), (), (crack,))

    def test_no_spot_then_can_not(self):
        for function in (own.fewest_heals, own.soonest):
            self.raises(NoSpot((0, 7)), function, (hall,), (crack,), (A, (0, 7)))
            self.raises(NoSpot((0, 9)), function, (hall,), (crack,), ((0, 1), (0, 9), (1, 0)))
            self.raises(NoSpot((1, 0)), function, (hall,), (crack,), ((0, 1), (1, 0)))
            self.raises(CanNot(), function, (hall,), (crack,), ((0, 1),))
            self.raises(CanNot(), function, (hall,), (), (A, (0, 5)))
            self.raises(CanNot(), function, bare[0], (), ((0, 0),))

    def test_too_many(self):
        self.raises(TooMany(), own.safe_orders, TWO, SEVEN)
        self.raises(TooMany(), own.zone_orders, (TWO, (), (), ("bell",), 2), SEVEN)
        # The others tell so many, too.
        self.assertTrue(own.is_safe_order(TWO, SEVEN, own.least_order(TWO, SEVEN)))
        self.assertEqual(own.count_orders(TWO, SEVEN), 7 * own.count_orders(TWO, SIX))
        self.assertFalse(own.any_order(TWO, SEVEN))
        self.assertEqual(own.soonest(TWO, SEVEN, (A,))[0], 0)


def some_faults(dice, rings, most):
    ways = oracle.all_gaps(rings)
    ways = dice.sample(ways, min(len(ways), dice.randint(0, most)))
    return tuple(sorted((dice.choice(("break", "short")), gap) for gap in ways))


class ForAll(unittest.TestCase):
    def check(self, rings, faults, spots):
        orders = all_orders(faults)
        for fault in faults:
            after, before = oracle.heard(rings, left(faults, (fault,))), oracle.heard(rings, faults)
            self.assertEqual(own.heal_takes(rings, faults, fault), takes(rings, faults, fault))
            gives = tuple(spot for spot in after if spot not in before)
            self.assertEqual(own.heal_gives(rings, faults, fault), gives)
            if fault[0] == "short":
                self.assertEqual(takes(rings, faults, fault), ())
        self.assertEqual(own.safe_heals(rings, faults), tuple(own_one for own_one in faults if not takes(rings, faults, own_one)))
        safe = [order for order in orders if is_safe(rings, faults, order)]
        self.assertEqual(own.safe_orders(rings, faults), safe)
        self.assertEqual(own.count_orders(rings, faults), len(safe))
        self.assertEqual(own.least_order(rings, faults), safe[0])
        self.assertEqual(own.any_order(rings, faults), safe == orders)
        for order in orders[:8] + orders[-4:]:
            along = tuple(oracle.heard(rings, left(faults, order[:at])) for at in range(len(order) + 1))
            self.assertEqual(own.heard_along(rings, faults, order), along)
            harms = [
                (at, tuple(spot for spot in along[at] if spot not in along[at + 1])) for at in range(len(order))
            ]
            harms = [row for row in harms if row[1]]
            self.assertEqual(own.order_harm(rings, faults, order), harms[0] if harms else None)
            self.assertEqual(own.is_safe_order(rings, faults, order), order in safe)
        self.check_spots(rings, faults, spots, safe)
        return len(safe) < len(orders)

    def check_spots(self, rings, faults, spots, safe):
        enough = [row for row in oracle.all_subsets(faults) if set(spots) <= set(oracle.heard(rings, left(faults, row)))]
        fewest = min(map(len, enough))
        self.assertEqual(own.fewest_heals(rings, faults, spots), sorted(row for row in enough if len(row) == fewest))
        rows = []
        for order in safe:
            for many in range(len(order) + 1):
                if set(spots) <= set(oracle.heard(rings, left(faults, order[:many]))):
                    rows.append((many, order))
        self.assertEqual(own.soonest(rings, faults, spots), min(rows))

    def test_all_faults_of_small_rings(self):
        harms = 0
        for ring in oracle.small_rings(3):
            spots = tuple((0, at) for at, piece in enumerate(ring[1]) if piece != ("cut",))
            for faults in oracle.mishaps((ring,)):
                if len(ring[1]) < 3 or len(faults) != 4:
                    harms += self.check((ring,), faults, spots[:1])
        self.assertGreater(harms, 100)

    def test_by_a_seed(self):
        dice = random.Random(181)
        harms = 0
        for _ in range(250):
            rings = some_house(dice)[0]
            faults = some_faults(dice, rings, 5)
            bare_spots = [(n, at) for n, ring in enumerate(rings) for at, own_one in enumerate(ring[1]) if own_one[0] != "cut"]
            spots = tuple(sorted(dice.sample(bare_spots, dice.randint(0, min(3, len(bare_spots))))))
            harms += self.check(rings, faults, spots)
        self.assertGreater(harms, 20)

    def test_zone_orders(self):
        dice = random.Random(182)
        fewer = 0
        while fewer < 25:
            house = some_house(dice)
            faults = some_faults(dice, house[0], 4)
            if not house[1] or len(faults) < 2:
                continue
            good = []
            for order in all_orders(faults):
                dumb = []
                for at in range(len(order) + 1):
                    there = oracle.heard(house[0], left(faults, order[:at]))
                    dumb.append({z for z, (spots, knocks, _) in enumerate(house[1]) if len(set(spots) & set(there)) < knocks})
                if all(other <= one for one, other in zip(dumb, dumb[1:])):
                    good.append(order)
            self.assertEqual(own.zone_orders(house, faults), good)
            fewer += len(good) < len(all_orders(faults))

    def test_when_a_break_takes(self):
        """The guarantee, word by word."""
        for ring in oracle.small_rings(3):
            for faults in oracle.mishaps((ring,)):
                for fault in faults:
                    if fault[0] == "break":
                        so = any(
                            self.leads_to_a_short(sections, faults, fault[1][1])
                            for sections in (oracle.items_by_section(ring), [
                                row[::-1] for row in oracle.items_by_section(ring)[::-1]
                            ])
                        )
                        self.assertEqual(own.heal_takes((ring,), faults, fault) != (), so, (ring, faults, fault))

    def leads_to_a_short(self, sections, faults, number):
        there = {gap[1]: word for word, gap in faults}
        for section in sections:
            hits = [own_one[1] for own_one in section if own_one[0] == "gap" and own_one[1] in there]
            if hits:
                ahead = section[:section.index(("gap", number))] if ("gap", number) in section else []
                pieces = [own_one for own_one in ahead if own_one[0] == "piece"]
                return hits[0] == number and bool(pieces) and len(hits) > 1 and there[hits[1]] == "short"
        return False


class Greatest(StyledCase):
    def test_six_faults(self):
        ten = (0, tuple(("feel", at) if at not in (2, 6) else ("cut",) for at in range(10)))
        rings = (ten, (1, ten[1][::-1]), (0, ten[1]))
        faults = (
            ("break", (0, 1)), ("break", (0, 4)), ("break", (2, 8)),
            ("short", (0, 2)), ("short", (0, 5)), ("short", (2, 10)),
        )
        told = own.safe_orders(rings, faults)
        self.assertEqual(told, [row for row in all_orders(faults) if is_safe(rings, faults, row)])
        self.assertEqual(len(told), own.count_orders(rings, faults))
        self.told(told[0], own.least_order, rings, faults)
        self.assertEqual(len(own.safe_orders(rings, tuple(("short", (0, at)) for at in range(6)))), 720)

    def test_keep(self):
        faults = (("break", (0, 1)), ("short", (0, 2)), ("short", (1, 2)), ("short", (3, 0)))
        self.assertEqual(own.zone_orders(keep, faults)[0], min(own.zone_orders(keep, faults)))
