"""Cut-offs [19]."""

import itertools
import random
import unittest

from secondknock import cutoffs as own
from secondknock.errors import CanNot, NoGap, NoOut, NoRing, NoSpot, NoZone, TooMany, Unfit
from secondknock.houses import is_house
from tests import oracle
from tests.samples import bare, barred, crowd, inn, keep, loft, risen, some_begins, some_house, tower
from tests.styles import StyledCase

A, B, C, BELL, D = (0, 0), (0, 2), (0, 3), (0, 4), (0, 6)
STARTS = (((A, 5), (B, 1), (C, 4), (D, 2)),)
# Bells alone; one PIECE.
BELLS = (((0, (("bell", 0), ("cut",), ("bell", 0))), (0, (("feel", 1),))), ((((1, 0),), 1, None),), (), ("bell",), 1)


def all_cuts(many):
    return sorted(oracle.all_subsets(range(many + 1)))


def bare_pieces(house, ring):
    return [(at, piece) for at, piece in enumerate(house[0][ring][1]) if piece != ("cut",)]


def cut_so(house, ring, cuts):
    """The HOUSE with the RING cut so, by the words of the point."""
    pieces, moved = [], {}
    for number, (at, piece) in enumerate(bare_pieces(house, ring) + [(None, None)]):
        if number in cuts:
            pieces.append(("cut",))
        if piece is not None:
            moved[(ring, at)] = (ring, len(pieces))
            pieces.append(piece)
    rings = list(house[0])
    rings[ring] = (rings[ring][0], tuple(pieces))
    zones = tuple(
        (tuple(sorted(moved.get(spot, spot) for spot in spots)), knocks, stay) for spots, knocks, stay in house[1]
    )
    return (tuple(rings), zones) + house[2:]


def least_heard(house, ring):
    """For each ZONE how many of its SPOTS are heard at the least with any one FAULT on this RING."""
    rows = []
    for gap in range(len(house[0][ring][1]) + 1):
        for word in ("break", "short"):
            there = oracle.heard(house[0], ((word, (ring, gap)),))
            rows.append([len(set(spots) & set(there)) for spots, _, _ in house[1]])
    return tuple(min(row[zone] for row in rows) for zone in range(len(house[1])))


def do_hold(house, ring, cuts, keeps):
    return all(one >= other for one, other in zip(least_heard(cut_so(house, ring, cuts), ring), keeps))


class Ordinary(StyledCase):
    def test_cut_house(self):
        pieces = (("feel", 0), ("feel", 1), ("feel", 2), ("cut",), ("bell", 0), ("feel", 0))
        zones = ((((0, 0), (0, 1)), 1, None), (((0, 1), (0, 2), (0, 5)), 2, None))
        self.told((((0, pieces),), zones) + inn[2:], own.cut_house, inn, 0, (3,))
        self.told(inn, own.cut_house, inn, 0, (1, 4))
        plain = own.cut_house(inn, 0, ())
        self.assertEqual(plain[0][0][1], tuple(piece for piece in inn[0][0][1] if piece != ("cut",)))
        whole = own.cut_house(inn, 0, (0, 1, 2, 3, 4, 5))
        self.assertEqual(len(whole[0][0][1]), 11)
        self.assertEqual(whole[1][1][0], ((0, 3), (0, 5), (0, 9)))
        self.told(whole, own.cut_house, plain, 0, (0, 1, 2, 3, 4, 5))
        # Other RINGS and what names them stay.
        self.told(keep, own.cut_house, keep, 3, ())
        self.assertEqual(own.cut_house(keep, 3, (1,))[1][2], (((3, 0), (3, 2)), 1, None))
        for house in (plain, whole, own.cut_house(keep, 0, (0, 3))):
            self.assertTrue(is_house(house))

    def test_bare_gaps(self):
        self.told((1, 4), own.bare_gaps, inn, 0)
        self.told((2,), own.bare_gaps, keep, 0)
        # Two side by side are in one bare GAP.
        self.told((1,), own.bare_gaps, keep, 1)
        self.told((), own.bare_gaps, keep, 3)
        self.told((0, 5), own.bare_gaps, own.cut_house(inn, 0, (0, 5)), 0)
        self.told((1,), own.bare_gaps, BELLS, 0)

    def test_may_go(self):
        for spots, keeps, told in (
            ((A, C), (1, 2), True), ((B, C), (1, 2), False), ((), (2, 3), True), ((), (2, 4), False),
            ((A, B, C, D), (0, 0), True), ((A, B), (1, 0), False), ((A,), (2, 0), False),
        ):
            self.told(told, own.may_go, inn, spots, keeps)
        self.told(True, own.may_go, bare, (), ())
        # On all RINGS.
        self.told(True, own.may_go, keep, ((0, 0), (1, 0), (3, 0)), (1, 1, 1))
        self.told(False, own.may_go, keep, ((0, 0), (1, 0), (3, 0)), (1, 1, 2))

    def test_kept_by(self):
        self.told((1, 1), own.kept_by, inn, 0, (1, 4))
        self.told((0, 0), own.kept_by, inn, 0, ())
        self.told((1, 2), own.kept_by, inn, 0, (0, 1, 2, 3, 4, 5))
        self.told((1, 2), own.kept_by, inn, 0, (1, 2, 4))
        self.told((2, 2, 0), own.kept_by, keep, 3, ())
        self.told((), own.kept_by, BELLS[:1] + ((),) + BELLS[2:], 0, ())

    def test_fewest_cuts(self):
        self.told((1, 2, 4), own.fewest_cuts, inn, 0, (1, 2))
        self.told((), own.fewest_cuts, inn, 0, (0, 0))
        self.told((1,), own.fewest_cuts, inn, 0, (1, 0))
        self.told((), own.fewest_cuts, BELLS, 0, (1,))
        self.told((), own.fewest_cuts, BELLS, 1, (0,))
        for keeps in ((3, 0), (2, 0), (0, 3), (0, 9)):
            self.raises(CanNot(), own.fewest_cuts, inn, 0, keeps)
            self.raises(CanNot(), own.cut_paper, inn, 0, keeps)
            self.raises(CanNot(), own.cheapest_cuts, inn, 0, keeps, (0,) * 6)
            self.told(0, own.count_cuts, inn, 0, keeps)
            self.told(False, own.is_cut_paper, inn, 0, keeps, ())
        self.raises(CanNot(), own.fewest_cuts, BELLS, 0, (2,))
        self.raises(CanNot(), own.fewest_cuts, BELLS, 1, (1,))

    def test_cut_paper(self):
        self.assertEqual(own.cut_paper(inn, 0, (0, 0)), ())
        good = [((0, 2), (1, 3), (2, 5)), own.cut_paper(inn, 0, (1, 2))]
        bad = [
            (), ((0, 2), (1, 3)), ((0, 2), (1, 3), (2, 5), (3, 5)), ((0, 3), (1, 3), (2, 5)), ((1, 3), (0, 2), (2, 5)),
            ((0, 2), (1, 3), (2, 4)), ((0, 2), (1, 3), (2, 6)), [(0, 2), (1, 3), (2, 5)], ([0, 2], (1, 3), (2, 5)),
            ((False, 2), (1, 3), (2, 5)), ((0, 2), (1, 3), (5, 2)), ((0, 2), (0, 2), (2, 5)), ((0, 2), (1, 3), None),
            ((0, 1), (1, 3), (2, 5)), ((0, 2), (1, 3), (2, 10 ** 30)), ((0, 2, 3), (1, 3), (2, 5)),
        ]
        self.things(good, bad, own.is_cut_paper, inn, 0, (1, 2))
        self.things([()], [((0, 5),), ((0, 2),)], own.is_cut_paper, inn, 0, (0, 0))

    def test_count_and_cheapest(self):
        self.told(2, own.count_cuts, inn, 0, (1, 2))
        self.told(1, own.count_cuts, inn, 0, (0, 0))
        self.told((11, (1, 2, 3)), own.cheapest_cuts, inn, 0, (1, 2), (0, 5, 5, 1, 3, 0))
        # Costs of 0: as few as can be, then the least.
        self.told((0, (1, 2, 3)), own.cheapest_cuts, inn, 0, (1, 2), (0,) * 6)
        self.told((0, ()), own.cheapest_cuts, inn, 0, (0, 0), (0,) * 6)
        self.told((0, ()), own.cheapest_cuts, inn, 0, (0, 0), (7,) * 6)
        # More cuts where these cost less: of three the two are dearer than others.
        self.told((2, (1, 2, 4)), own.cheapest_cuts, inn, 0, (1, 2), (0, 1, 1, 9, 0, 0))

    def test_cuts_in_time(self):
        self.told((1, 2, 4), own.cuts_in_time, inn, 0, STARTS, 1, 7)
        self.raises(CanNot(), own.cuts_in_time, inn, 0, STARTS, 1, 6)
        # By each of starts; one by which nothing speaks.
        self.told((1,), own.cuts_in_time, inn, 0, STARTS, 0, 8)
        self.told((1,), own.cuts_in_time, inn, 0, STARTS * 2, 0, 8)
        self.raises(CanNot(), own.cuts_in_time, inn, 0, STARTS + ((),), 0, 8)
        self.raises(CanNot(), own.cuts_in_time, inn, 0, STARTS, 0, 3)
        self.told((), own.cuts_in_time, tower, 1, ((((0, 0), 0), ((0, 2), 0)),), 0, 4)

    def test_with_new(self):
        told = own.with_new(inn, (0, 7), 5, 1)
        self.assertEqual(told[1][1][0], (B, C, D, (0, 7)))
        self.assertEqual(told[0][0][1], inn[0][0][1] + (("feel", 5),))
        # At end A, beside a cut-off ahead and behind it.
        self.told(
            (((0, (("feel", 9),) + inn[0][0][1]),), ((((0, 0), (0, 1), (0, 3)), 1, None), (((0, 3), (0, 4), (0, 7)), 2, None)))
            + inn[2:], own.with_new, inn, (0, 0), 9, 0,
        )
        for gap, spots in ((1, ((0, 0), (0, 1), (0, 3))), (2, ((0, 0), (0, 2), (0, 3)))):
            told = own.with_new(inn, (0, gap), 0, 0)
            self.assertEqual(told[1][0][0], spots)
            self.assertTrue(is_house(told))
        # On a RING of cut-offs alone.
        told = own.with_new(keep, (2, 1), 4, 2)
        self.assertEqual((told[0][2], told[1][2][0]), ((1, (("cut",), ("feel", 4))), ((2, 1), (3, 0), (3, 1))))

    def test_new_gaps(self):
        self.told((0, 1, 6, 7), own.new_gaps, inn, 0, 1, (1, 2))
        self.told((), own.new_gaps, inn, 0, 0, (1, 2))
        self.told(tuple(range(8)), own.new_gaps, inn, 0, 0, (0, 0))
        self.told((), own.new_gaps, inn, 0, 0, (4, 0))
        # Of another panel.
        self.told((), own.new_gaps, loft, 1, 0, (0, 0))
        self.told((0, 1, 2), own.new_gaps, loft, 1, 1, (0, 0))
        self.told((), own.new_gaps, loft, 1, 1, (0, 1))


class Errors(StyledCase):
    def test_no_ring(self):
        """Also one of cut-offs alone; all behind the RING is wrong, too."""
        for ring in (-1, 4, 2):
            self.raises(NoRing(ring), own.bare_gaps, keep, ring)
            for function in (own.cut_house, own.kept_by):
                self.raises(NoRing(ring), function, keep, ring, (99,))
            for function in (own.fewest_cuts, own.cut_paper, own.count_cuts):
                self.raises(NoRing(ring), function, keep, ring, (9, 9, 9))
            self.raises(NoRing(ring), own.is_cut_paper, keep, ring, (9, 9, 9), None)
            self.raises(NoRing(ring), own.cheapest_cuts, keep, ring, (9, 9, 9), (0,) * 9)
            self.raises(NoRing(ring), own.new_gaps, keep, ring, 99, (9, 9, 9))
            self.raises(NoRing(ring), own.cuts_in_time, risen(keep), ring, STARTS, 99, 0)
        self.raises(NoRing(0), own.bare_gaps, bare, 0)

    def test_no_gap(self):
        for cuts, number in (((6,), 6), ((-1, 3), -1), ((0, 3, 7, 9), 7)):
            self.raises(NoGap((0, number)), own.cut_house, inn, 0, cuts)
            self.raises(NoGap((0, number)), own.kept_by, inn, 0, cuts)
        for gap in ((0, 8), (1, 0), (-1, 0), (0, -1)):
            self.raises(NoGap(gap), own.with_new, inn, gap, 0, 99)

    def test_no_zone_and_unfit(self):
        for zone in (-1, 2, 9):
            self.raises(NoZone(zone), own.with_new, inn, (0, 0), 0, zone)
            self.raises(NoZone(zone), own.new_gaps, inn, 0, zone, (0, 0))
        self.raises(NoZone(9), own.with_new, loft, (1, 0), 0, 9)
        self.raises(Unfit(), own.with_new, loft, (1, 0), 0, 0)
        self.raises(Unfit(), own.with_new, loft, (0, 0), 0, 1)

    def test_no_spot(self):
        for spots, first in (((A, (0, 1)), (0, 1)), ((BELL, (9, 9)), BELL), (((0, 7), (1, 0)), (0, 7))):
            self.raises(NoSpot(first), own.may_go, inn, spots, (9, 9))

    def test_cuts_in_time(self):
        for house in (barred, loft, keep):
            self.raises(Unfit(), own.cuts_in_time, house, 99, STARTS, 99, 0)
        for out in (-1, 2, 9):
            self.raises(NoOut(out), own.cuts_in_time, inn, 0, STARTS, out, 0)
        # FORMS of all OUTS are put together ahead of all else.
        self.raises(TooMany(), own.cuts_in_time, crowd, 99, STARTS, 99, 0)
        self.raises(TooMany(), own.cuts_in_time, crowd, 0, STARTS, 1, 0)


class ForAll(unittest.TestCase):
    def houses(self, seed, many, pieces):
        dice = random.Random(seed)
        while many > 0:
            house = some_house(dice)
            if not house[1]:
                continue
            for ring in range(len(house[0])):
                if 0 < len(bare_pieces(house, ring)) <= pieces:
                    many -= 1
                    yield dice, house, ring

    def test_cut_houses(self):
        for _, house, ring in self.houses(191, 60, 5):
            many = len(bare_pieces(house, ring))
            for cuts in all_cuts(many):
                told = cut_so(house, ring, cuts)
                self.assertEqual(own.cut_house(house, ring, cuts), told)
                self.assertTrue(is_house(told))
                self.assertEqual(own.bare_gaps(told, ring), cuts)
                self.assertEqual(own.kept_by(house, ring, cuts), least_heard(told, ring))

    def test_least_cuts(self):
        sizes = set()
        for dice, house, ring in self.houses(192, 70, 5):
            many = len(bare_pieces(house, ring))
            keeps = tuple(dice.randint(0, len(spots)) if dice.randint(0, 2) else 0 for spots, _, _ in house[1])
            holding = [cuts for cuts in all_cuts(many) if do_hold(house, ring, cuts, keeps)]
            if not holding:
                self.assertRaises(CanNot, own.fewest_cuts, house, ring, keeps)
                self.assertRaises(CanNot, own.cut_paper, house, ring, keeps)
                self.assertRaises(CanNot, own.cheapest_cuts, house, ring, keeps, (0,) * (many + 1))
                self.assertEqual(own.count_cuts(house, ring, keeps), 0)
                self.assertIs(own.is_cut_paper(house, ring, keeps, ()), False)
                continue
            few = [cuts for cuts in holding if len(cuts) == min(map(len, holding))]
            self.assertEqual(own.fewest_cuts(house, ring, keeps), max(few))
            self.assertEqual(own.count_cuts(house, ring, keeps), len(few))
            sizes.add(len(few[0]))
            for longest in (0, 3, 9):
                costs = tuple(dice.randint(0, longest) for _ in range(many + 1))
                rows = [(sum(costs[gap] for gap in cuts), len(cuts), cuts) for cuts in holding]
                self.assertEqual(own.cheapest_cuts(house, ring, keeps, costs), (min(rows)[0], min(rows)[2]))
            self.check_papers(house, ring, keeps, len(few[0]))
        self.assertGreaterEqual(sizes, {0, 1, 2})

    def check_papers(self, house, ring, keeps, size):
        self.assertIs(own.is_cut_paper(house, ring, keeps, own.cut_paper(house, ring, keeps)), True)
        spots = [(ring, at) if piece[0] == "feel" else None for at, piece in bare_pieces(house, ring)]
        strips = [(a, b) for a in range(len(spots)) for b in range(a + 1, len(spots) + 1)]
        for paper in itertools.combinations(strips, min(size, 2)):
            so = len(paper) == size
            within = [gap for a, b in paper for gap in range(a + 1, b)]
            so = so and len(within) == len(set(within))
            for a, b in paper:
                gone = spots[a:b]
                so = so and not all(
                    sum(spot not in gone for spot in zone) >= keep_of for (zone, _, _), keep_of in zip(house[1], keeps)
                )
            self.assertIs(own.is_cut_paper(house, ring, keeps, paper), so)

    def test_in_time(self):
        sizes = {}
        dice = random.Random(193)
        while min(sizes.get(size, 0) for size in (None, 0, 1, 2)) < 4:
            house = risen(some_house(dice))
            rings = [ring for ring in range(len(house[0])) if 0 < len(bare_pieces(house, ring)) <= 5]
            if not house[2] or not rings:
                continue
            ring, out = dice.choice(rings), dice.randrange(len(house[3]))
            feelers = oracle.spots_of_feelers(house)
            starts = tuple(
                some_begins(dice, feelers, 8) for _ in range(dice.randint(1, 2))
            )
            tick = dice.randint(1, 12)
            pieces = bare_pieces(house, ring)
            good = []
            for cuts in all_cuts(len(pieces)):
                bounds = [0, *cuts, len(pieces)]
                lots = [{(ring, at) for at, _ in pieces[a:b]} for a, b in zip(bounds, bounds[1:])]
                told = [
                    oracle.risen_ticks(house, tuple(pair for pair in begins if pair[0] not in gone))[2][out]
                    for gone in lots for begins in starts
                ]
                if all(own_tick is not None and own_tick <= tick for own_tick in told):
                    good.append(cuts)
            if good:
                few = [cuts for cuts in good if len(cuts) == min(map(len, good))]
                self.assertEqual(own.cuts_in_time(house, ring, starts, out, tick), max(few))
                size = len(few[0])
            else:
                self.assertRaises(CanNot, own.cuts_in_time, house, ring, starts, out, tick)
                size = None
            sizes[size] = sizes.get(size, 0) + 1

    def test_new_feelers(self):
        some = 0
        for dice, house, ring in self.houses(194, 80, 5):
            zone = dice.randrange(len(house[1]))
            keeps = tuple(dice.randint(0, len(spots)) for spots, _, _ in house[1])
            panel = house[0][house[1][zone][0][0][0]][0]
            found = []
            for gap in range(len(house[0][ring][1]) + 1):
                if house[0][ring][0] != panel:
                    self.assertRaises(Unfit, own.with_new, house, (ring, gap), 3, zone)
                    continue
                told = own.with_new(house, (ring, gap), 3, zone)
                self.assertTrue(is_house(told))
                pieces = told[0][ring][1]
                self.assertEqual((pieces[gap], pieces[:gap] + pieces[gap + 1:]), (("feel", 3), house[0][ring][1]))
                for number, (spots, knocks, stay) in enumerate(told[1]):
                    back = [(n, at - (n == ring and at > gap)) for n, at in spots if (n, at) != (ring, gap)]
                    self.assertEqual((tuple(back), knocks, stay), house[1][number])
                    self.assertEqual((ring, gap) in spots, number == zone)
                if all(one >= other for one, other in zip(least_heard(told, ring), keeps)):
                    found.append(gap)
            self.assertEqual(own.new_gaps(house, ring, zone, keeps), tuple(found))
            some += 0 < len(found) < len(house[0][ring][1]) + 1
        self.assertGreater(some, 3)


class Greatest(StyledCase):
    def test_ten_pieces(self):
        pieces = tuple(("feel", at) if at < 8 else ("bell", 0) for at in range(10))
        eight = tuple((0, at) for at in range(8))
        house = (((0, pieces),), ((eight, 2, None), (eight[2:5], 1, None), (eight[::3], 2, None)), (), ("bell",), 1)
        self.assertTrue(is_house(house))
        for keeps in ((7, 2, 2), (6, 0, 1), (5, 1, 0), (0, 0, 0)):
            holding = [cuts for cuts in all_cuts(10) if do_hold(house, 0, cuts, keeps)]
            few = [cuts for cuts in holding if len(cuts) == min(map(len, holding))]
            self.assertEqual(own.fewest_cuts(house, 0, keeps), max(few))
            self.assertEqual(own.count_cuts(house, 0, keeps), len(few))
            costs = (3, 1, 4, 1, 5, 9, 2, 6, 5, 3, 5)
            rows = [(sum(costs[gap] for gap in cuts), len(cuts), cuts) for cuts in holding]
            self.assertEqual(own.cheapest_cuts(house, 0, keeps, costs), (min(rows)[0], min(rows)[2]))
            self.assertTrue(own.is_cut_paper(house, 0, keeps, own.cut_paper(house, 0, keeps)))
