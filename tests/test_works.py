"""Works and trials [20]."""

import itertools
import random
import unittest

from secondknock import works as own
from secondknock.errors import CanNot, NoPlace, NoSpot, Unfit
from tests import oracle
from tests.samples import bare, crowd, eight, inn, keep, some_house, tower
from tests.styles import StyledCase

A, B, C, BELL, D = (0, 0), (0, 2), (0, 3), (0, 4), (0, 6)
ROW = (0, (("feel", 0), ("feel", 1), ("feel", 2), ("feel", 3), ("feel", 4)))
WING = (
    (ROW,), ((((0, 0), (0, 1), (0, 2)), 2, None), (((0, 3), (0, 4)), 2, None)),
    ((0, "any", (0, 1), 0, (), 0, 0, 0),), ("bell",), 1,
)
FIVE = tuple((0, at) for at in range(5))
# A ZONE of knocks 2 with two SPOTS at one place, one of them in another ZONE, too; a feeler in no ZONE, at place 7.
NOOK = (
    ((0, (("feel", 1), ("feel", 1), ("feel", 2), ("feel", 7))),),
    ((((0, 0), (0, 1)), 2, 0), (((0, 1), (0, 2)), 1, 5)), (), (), 1,
)


def place_of(house, spot):
    return house[0][spot[0]][1][spot[1]][1]


def can_be_knocked(house, works, offs):
    """The ZONES that could be knocked: by all that may speak speaking for ever."""
    speech = tuple(
        (spot, ((0, None),)) for spot in oracle.spots_of_feelers(house)
        if place_of(house, spot) in works and spot not in offs
    )
    # What its own panel sees is knocked, whatever the links.
    return oracle.course_of((house, speech, (), 1))[0]["knocked"]


class Ordinary(StyledCase):
    def test_at_works(self):
        self.told((A, D), own.at_works, inn, (0,))
        self.told((), own.at_works, inn, ())
        self.told((A, B, C, D), own.at_works, inn, (0, 1, 2))
        # A feeler in no ZONE is left out.
        self.told((), own.at_works, NOOK, (7,))
        self.told(((0, 0), (0, 1), (0, 2)), own.at_works, NOOK, (1, 2, 7))
        self.told((), own.at_works, bare, ())

    def test_is_still_and_noise(self):
        for works, offs, told in (
            ((0, 1, 2), (), [(0, (A,)), (1, (B, C))]), ((1, 2), (B,), []), ((1, 2), (C,), [(0, (B,))]), ((), (), []),
            ((0,), (), [(0, (A,))]), ((2,), (), []), ((0, 2), (A,), [(1, (C, D))]), ((0, 1, 2), (A, B, C, D), []),
        ):
            self.told(told, own.noise, inn, works, offs)
            self.told(told == [], own.is_still, inn, works, offs)
        self.told([(0, ((0, 0), (0, 1))), (1, ((0, 1),))], own.noise, NOOK, (1,), ((0, 3),))

    def test_offs(self):
        self.told([(A,)], own.fewest_offs, inn, (0,))
        self.told([(A, B, C), (A, B, D)], own.fewest_offs, inn, (0, 1, 2))
        self.told([(A, B, C), (A, B, D)], own.least_offs, inn, (0, 1, 2))
        self.told([()], own.fewest_offs, inn, ())
        self.told([()], own.least_offs, inn, (2,))
        self.told([()], own.least_offs, bare, ())
        # (0, 1) is in both ZONES: alone it is least; no other one is.
        self.told([((0, 1),)], own.fewest_offs, NOOK, (1,))
        self.told([((0, 1),)], own.least_offs, NOOK, (1,))
        # Least ones that are not fewest.
        house = ((ROW,), tuple((((0, 0), (0, at)), 2, None) for at in (1, 2, 3)), (), (), 1)
        self.told([((0, 0),)], own.fewest_offs, house, (0, 1, 2, 3))
        self.told([((0, 0),), ((0, 1), (0, 2), (0, 3))], own.least_offs, house, (0, 1, 2, 3))

    def test_dumb_zones(self):
        for offs, told in (((A, B, C), (0, 1)), ((), ()), ((A,), ()), ((B, C), (1,)), ((A, B), (0,))):
            self.told(told, own.dumb_zones, inn, offs)
        self.told((0,), own.dumb_zones, NOOK, ((0, 0), (0, 3)))

    def test_ends(self):
        offs = (A, B, C)
        self.told(((B,), (A,), (C,)), own.told_back, inn, (0, 1, 2), offs, (1, 0, 2))
        self.told((1, 0, 0), own.dumb_behind, inn, (0, 1, 2), offs, (0, 1, 2))
        self.told((0, (1, 0, 2)), own.best_ends, inn, (0, 1, 2), offs)
        # No works: nothing ends.
        self.told((), own.told_back, inn, (), offs, ())
        self.told((), own.dumb_behind, inn, (), offs, ())
        self.told((0, ()), own.best_ends, inn, (), offs)
        # What is put off at no works is told back behind the first end.
        self.told(((A, C, D), (B,)), own.told_back, inn, (1, 2), (A, B, C, D), (2, 1))
        self.told(((A, B, D), (C,)), own.told_back, inn, (1, 2), (A, B, C, D), (1, 2))
        self.told((0, 0), own.dumb_behind, inn, (0, 1), (A, B), (0, 1))

    def test_days(self):
        for house, spots, hands, told in (
            (WING, FIVE[:1], 1, True), (WING, ((0, 0), (0, 3)), 2, True), (WING, ((0, 0), (0, 3)), 1, False),
            (WING, ((0, 0), (0, 1)), 5, False), (WING, (), 1, True), (inn, (A,), 1, False), (inn, (C,), 9, True),
            (inn, (C, D), 9, False), (NOOK, ((0, 0), (0, 3)), 2, True), (bare, (), 3, True),
        ):
            self.told(told, own.is_good_day, house, spots, hands)

    def test_rounds(self):
        self.told(3, own.fewest_days, WING, FIVE, 2)
        self.told(5, own.fewest_days, WING, FIVE, 1)
        self.told(0, own.fewest_days, WING, (), 1)
        self.told((), own.round_of, WING, (), 1)
        self.told(0, own.fewest_days, inn, (), 3)
        # More hands than SPOTS.
        self.told(3, own.fewest_days, WING, FIVE, 99)
        self.told(1, own.fewest_days, NOOK, ((0, 0), (0, 3)), 99)
        # In a ZONE of knocks 1 none is tried.
        self.raises(CanNot(), own.fewest_days, inn, (A,), 1)
        self.raises(CanNot(), own.round_of, inn, (A, C), 9)
        self.raises(CanNot(), own.round_of, inn, (B,), 9)
        told = own.round_of(WING, FIVE, 2)
        self.told(told, own.round_of, WING, FIVE, 2)
        days = (((0, 0), (0, 3)), ((0, 1), (0, 4)), ((0, 2),))
        good = [told, days, days[::-1], tuple((spot,) for spot in FIVE), days + ((),), ((), ()) + days]
        bad = [
            (), days[:2], days + (((0, 2),),), days[:2] + ((),), list(days), (list(days[0]),) + days[1:],
            (((0, 3), (0, 0)),) + days[1:], (((0, False), (0, 3)),) + days[1:], days[:2] + (((0, 2), (0, 9)),),
            (((0, 0), (0, 1)), ((0, 2), (0, 3)), ((0, 4),)), days + ((None,),), days + (None,), days + (((0, 5),),),
        ]
        self.things(good, bad, own.is_round, WING, FIVE, 2)
        self.things([days, days[::-1]], [], own.is_round, WING, FIVE, 3)
        self.things([tuple((spot,) for spot in FIVE)], [days], own.is_round, WING, FIVE, 1)
        # () is a ROUND of no SPOTS, and so are DAYS without any.
        self.told(True, own.is_round, inn, (), 1, ())
        self.told(True, own.is_round, inn, (), 1, ((), ()))
        self.told(False, own.is_round, inn, (A,), 1, ((A,),))


class Errors(StyledCase):
    def test_no_place_then_no_spot(self):
        for works, first in (((0, 3), 3), ((5, 9), 5), ((-1, 0), -1)):
            self.raises(NoPlace(first), own.at_works, inn, works)
            self.raises(NoPlace(first), own.fewest_offs, inn, works)
            self.raises(NoPlace(first), own.least_offs, inn, works)
            for function in (own.is_still, own.noise, own.best_ends):
                self.raises(NoPlace(first), function, inn, works, (BELL,))
            for function in (own.told_back, own.dumb_behind):
                self.raises(NoPlace(first), function, inn, works, (BELL,), works)
        self.raises(NoPlace(0), own.at_works, bare, (0,))
        for offs, first in (((A, BELL), BELL), (((0, 1), (9, 9)), (0, 1)), (((0, 7),), (0, 7))):
            for function in (own.is_still, own.noise, own.best_ends):
                self.raises(NoSpot(first), function, inn, (0, 1, 2), offs)
            for function in (own.told_back, own.dumb_behind):
                self.raises(NoSpot(first), function, inn, (0, 1, 2), offs, (0, 1, 2))
            self.raises(NoSpot(first), own.dumb_zones, inn, offs)
            for function in (own.is_good_day, own.fewest_days, own.round_of):
                self.raises(NoSpot(first), function, inn, offs, 1)
            self.raises(NoSpot(first), own.is_round, inn, offs, 1, None)

    def test_unfit(self):
        for offs in ((), (A,), (A, C, D), (B, C, D)):
            self.raises(Unfit(), own.best_ends, inn, (0, 1, 2), offs)
            self.raises(Unfit(), own.told_back, inn, (0, 1, 2), offs, (0, 1, 2))
            self.raises(Unfit(), own.dumb_behind, inn, (0, 1, 2), offs, (0, 1, 2))


class ForAll(unittest.TestCase):
    def houses(self, seed, many):
        dice = random.Random(seed)
        while many:
            house = some_house(dice)
            feelers = oracle.spots_of_feelers(house)
            if house[1] and len(feelers) <= 6:
                many -= 1
                places = sorted({place_of(house, spot) for spot in feelers})
                yield dice, house, feelers, tuple(sorted(dice.sample(places, dice.randint(0, len(places)))))

    def test_stillness(self):
        sizes = set()
        for _, house, feelers, works in self.houses(201, 60):
            zoned = {spot for zone in house[1] for spot in zone[0]}
            spots = tuple(spot for spot in feelers if spot in zoned and place_of(house, spot) in works)
            self.assertEqual(own.at_works(house, works), spots)
            still = []
            for offs in oracle.all_subsets(feelers):
                knocked = can_be_knocked(house, works, offs)
                self.assertEqual(own.is_still(house, works, offs), knocked == ())
                told = own.noise(house, works, offs)
                self.assertEqual(tuple(zone for zone, _ in told), knocked)
                for zone, least in told:
                    doing = [
                        row for row in oracle.all_subsets(tuple(spot for spot in feelers if place_of(house, spot) in works))
                        if not set(row) & set(offs) and set(row) <= set(house[1][zone][0])
                        and len(row) >= house[1][zone][1]
                    ]
                    self.assertEqual(least, min(doing))
                dumb = tuple(z for z, (row, knocks, _) in enumerate(house[1]) if len(set(row) - set(offs)) < knocks)
                self.assertEqual(own.dumb_zones(house, offs), dumb)
                if knocked == ():
                    still.append(offs)
            fewest = min(map(len, still))
            self.assertEqual(own.fewest_offs(house, works), sorted(row for row in still if len(row) == fewest))
            self.assertEqual(own.least_offs(house, works), oracle.least_of(still))
            sizes.add(fewest)
        self.assertGreaterEqual(sizes, {0, 1, 2, 3})

    def test_ends(self):
        sums = set()
        for dice, house, feelers, works in self.houses(202, 120):
            offs = tuple(sorted(set(dice.choice(own.least_offs(house, works))) | set(dice.sample(feelers, len(feelers) // 2))))
            rows = []
            for ends in itertools.permutations(works):
                back, dumb, left = [], [], set(offs)
                for at in range(len(ends)):
                    told = {spot for spot in left if place_of(house, spot) not in ends[at + 1:]}
                    left -= told
                    back.append(tuple(sorted(told)))
                    dumb.append(sum(len(set(row) - left) < knocks for row, knocks, _ in house[1]))
                    self.assertEqual(can_be_knocked(house, ends[at + 1:], left), ())
                self.assertEqual(own.told_back(house, works, offs, ends), tuple(back))
                self.assertEqual(own.dumb_behind(house, works, offs, ends), tuple(dumb))
                rows.append((sum(dumb), ends))
            self.assertEqual(own.best_ends(house, works, offs), min(rows))
            sums.add(min(rows)[0])
        self.assertGreater(len(sums), 2)

    def all_days(self, house, spots, hands):
        return [
            day for day in oracle.all_subsets(spots)
            if len(day) <= hands and all(len(set(row) & set(day)) < knocks for row, knocks, _ in house[1])
        ]

    def shortest(self, house, spots, hands):
        """Of how many DAYS the shortest ROUND is, each SPOT put on each DAY in turn; None without."""
        good = set(self.all_days(house, spots, hands))
        best = None
        for days in itertools.product(range(len(spots)), repeat=len(spots)):
            rows = {}
            for spot, day in zip(spots, days):
                rows.setdefault(day, []).append(spot)
            if all(tuple(row) in good for row in rows.values()):
                best = len(rows) if best is None else min(best, len(rows))
        return best

    def test_rounds(self):
        sizes = set()
        for dice, house, feelers, _ in self.houses(203, 150):
            # Mostly of feelers that can be tried.
            free = [spot for spot in feelers if not any(spot in row and knocks == 1 for row, knocks, _ in house[1])]
            pool = free if dice.randint(0, 3) and free else feelers
            spots = tuple(sorted(dice.sample(pool, min(len(pool), dice.randint(0, 4)))))
            for hands in (1, 2, 9):
                for day in oracle.all_subsets(spots):
                    so = day in self.all_days(house, spots, hands)
                    self.assertEqual(own.is_good_day(house, day, hands), so)
                best = self.shortest(house, spots, hands)
                sizes.add(best)
                if best is None:
                    self.assertRaises(CanNot, own.fewest_days, house, spots, hands)
                    self.assertRaises(CanNot, own.round_of, house, spots, hands)
                    continue
                told = own.round_of(house, spots, hands)
                self.assertEqual((own.fewest_days(house, spots, hands), len(told)), (best, best))
                self.assertIs(own.is_round(house, spots, hands, told), True)
                self.assertTrue(all(self.all_days(house, spots, hands).count(day) for day in told))
                self.assertEqual(tuple(sorted(spot for day in told for spot in day)), spots)
        self.assertGreaterEqual(sizes, {None, 0, 1, 2, 3})

    def test_guarantees(self):
        """No SPOT in two ZONES: how many are put off, and how many DAYS there are."""
        dice = random.Random(204)
        ring = (0, tuple(("feel", at % 4) for at in range(7)))
        for _ in range(60):
            cut = sorted(dice.sample(range(1, 7), 2))
            rows = [tuple((0, at) for at in range(a, b)) for a, b in zip([0] + cut, cut + [7])]
            zones = tuple((row, min(len(row), dice.randint(1, 2)), dice.choice((None, 0, 4))) for row in rows)
            house = ((ring,), zones, (), (), 1)
            works = tuple(sorted(dice.sample(range(4), dice.randint(0, 4))))
            for offs in own.fewest_offs(house, works):
                for row, knocks, _ in zones:
                    busy = [spot for spot in row if place_of(house, spot) in works]
                    self.assertEqual(len([spot for spot in busy if spot not in offs]), min(len(busy), knocks - 1))
            free = [spot for row, knocks, _ in zones if knocks == 2 for spot in row]
            spots = tuple(sorted(dice.sample(free, dice.randint(0, len(free)))))
            hands = dice.randint(1, 4)
            most = max([len(set(row) & set(spots)) for row, _, _ in zones])
            self.assertEqual(own.fewest_days(house, spots, hands), max(most, -(-len(spots) // hands)))


class Greatest(StyledCase):
    def test_eight_feelers(self):
        zones = ((eight, 2, None), (eight[::2], 2, 7), (eight[2:6], 2, None))
        house = crowd[:1] + (zones,) + ((), (), 1)
        self.told(8, own.fewest_days, house, eight, 3)
        works = (0, 1, 2, 3, 4, 5)
        for offs in own.fewest_offs(house, works):
            self.assertEqual(len(offs), 7)
        total, ends = own.best_ends(house, works, eight)
        self.assertEqual(sum(own.dumb_behind(house, works, eight, ends)), total)
        self.assertEqual((total, ends), min(
            (sum(own.dumb_behind(house, works, eight, row)), row) for row in itertools.permutations(works)
        ))
        free = (crowd[0], ((eight[:4], 2, None), (eight[4:], 2, None)), (), (), 1)
        self.told(4, own.fewest_days, free, eight, 8)
        self.told(8, own.fewest_days, free, eight, 1)

    def test_three_rings(self):
        for works in oracle.all_subsets((0, 1, 2, 7)):
            for offs in own.least_offs(tower, works):
                self.assertTrue(own.is_still(tower, works, offs))
        self.assertEqual(own.fewest_offs(keep, (0, 1, 2, 4))[0], min(own.fewest_offs(keep, (0, 1, 2, 4))))
