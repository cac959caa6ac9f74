"""Houses that rise [10]."""

import itertools
import random
import unittest

from secondknock import rising as own
from secondknock.errors import CanNot, NoLine, NoOut, NoSpot, NoZone, TooMany, Unfit
from secondknock.forms import is_form, least_form
from secondknock.houses import is_house, rises
from tests import oracle
from tests.samples import bare, barred, crowd, eight, inn, keep, loft, risen, some_begins, some_house, tower
from tests.styles import StyledCase

A, B, C, D = (0, 0), (0, 2), (0, 3), (0, 6)
FIRE = ((A, 5), (B, 1), (D, 2))
BELL, CUT, GONE = (0, 4), (0, 1), (9, 0)
NEVER = 10 ** 9


def tick(value):
    return NEVER if value is None else value


class Samples(unittest.TestCase):
    def test_samples(self):
        for house in (tower, crowd, bare, inn):
            self.assertTrue(is_house(house) and rises(house))


class Ordinary(StyledCase):
    def test_zone_form(self):
        self.told((((A, 0),), ((B, 0),)), own.zone_form, inn, 0, ())
        self.told((((C, 0), (D, 0)),), own.zone_form, inn, 1, (B,))
        self.told((((A, 0),),), own.zone_form, inn, 0, (B, C))
        # Lost SPOTS that leave too few.
        self.told((), own.zone_form, inn, 1, (B, C))
        self.told((), own.zone_form, inn, 0, (A, B))

    def test_line_form(self):
        self.told((((A, 3),), ((B, 3),)), own.line_form, inn, 0, ())
        self.told((((A, 2), (C, 2), (D, 2)), ((B, 2), (C, 2)), ((B, 2), (D, 2))), own.line_form, inn, 1, ())
        self.told((((A, 2), (C, 2), (D, 2)),), own.line_form, inn, 1, (B,))
        self.told((), own.line_form, inn, 1, (C, D))
        # Two panels; a ZONE that asks two together with one that asks one.
        pairs = ((((1, 0), 2), ((1, 1), 2)), (((1, 0), 2), ((1, 2), 2)), (((1, 1), 2), ((1, 2), 2)))
        self.told((((A, 2),), ((B, 2),)) + pairs, own.line_form, tower, 0, ())
        self.told((((A, 2),), ((B, 2),)), own.line_form, tower, 0, ((1, 0), (1, 2)))

    def test_out_form(self):
        self.told((((A, 3),), ((B, 3),)), own.out_form, inn, 0, ())
        self.told((), own.out_form, tower, 1, ())
        # B alone is on by LINE 2, too, but by LINE 0 sooner.
        self.told((((A, 2),), ((B, 2),)), own.out_form, tower, 0, ((1, 0), (1, 1)))
        both = tuple(((B, 1), ((1, one), 1), ((1, other), 1)) for one, other in ((0, 1), (0, 2), (1, 2)))
        self.told(both + (((B, 3),),), own.out_form, tower, 2, (A,))

    def test_first_ticks(self):
        self.told((4, 4), own.first_ticks, inn, FIRE, ())
        self.told((None, None), own.first_ticks, inn, FIRE, (A, B))
        self.told((8, None), own.first_ticks, inn, FIRE, (B,))
        self.told((None, None), own.first_ticks, inn, (), ())
        self.told((3, None, 4), own.first_ticks, tower, ((B, 1), ((1, 0), 3), ((1, 2), 4)), ())
        self.told((), own.first_ticks, bare, (), ())
        # Of begins nothing is asked.
        self.told((3, None), own.first_ticks, inn, ((A, 0), (BELL, 2), (GONE, 4)), ())

    def test_begins_from(self):
        self.told(((A, 5), (B, 4), (D, 4)), own.begins_from, FIRE, 4)
        self.told(FIRE, own.begins_from, FIRE, 0)
        self.told((), own.begins_from, (), 3)

    def test_hangs_on(self):
        self.told("never", own.hangs_on, inn, 0, C)
        self.told("some", own.hangs_on, inn, 0, A)
        self.told("some", own.hangs_on, inn, 1, B)
        self.told("never", own.hangs_on, tower, 1, A)
        lone = inn[:2] + (((0, "all", (0, 1), 0, (), 0, 0, 0),),) + inn[3:]
        lone = (lone[0], (((B,), 1, None), ((B, C), 1, None))) + lone[2:]
        self.told("always", own.hangs_on, lone, 0, B)
        # C is in a ZONE of the LINE, but in no ROW of the least FORM.
        self.told("never", own.hangs_on, lone, 0, C)

    def test_later_without(self):
        self.told(0, own.later_without, inn, 0, ())
        self.told(0, own.later_without, inn, 0, (C, D))
        self.told(None, own.later_without, inn, 0, (A,))
        # A and B together have it on five ticks sooner than A alone, but C alone has it on, too.
        lines = ((0, "any", (0,), 3, (), 0, 0, 0), (0, "any", (1,), 8, (), 0, 0, 0))
        pair = (inn[0], (((A, B), 2, None), ((A, C), 1, None)), lines, inn[3], 1)
        self.told(5, own.later_without, pair, 0, (B,))
        self.told(None, own.later_without, pair, 0, (A, C))

    def test_deaf_pairs(self):
        self.told(((A, B), (A, C), (A, D), (B, C), (B, D)), own.deaf_pairs, inn, 0, 0)
        pair = (inn[0], (((A, B), 2, None), ((A, C), 1, None)),
                ((0, "any", (0,), 3, (), 0, 0, 0), (0, "any", (1,), 8, (), 0, 0, 0)), inn[3], 1)
        self.told(((A, B), (A, C), (A, D), (B, C), (B, D), (C, D)), own.deaf_pairs, pair, 0, 0)
        self.told(((A, B), (A, C), (A, D), (B, C), (C, D)), own.deaf_pairs, pair, 0, 5)
        # A with one of B, C, D has it on, A alone three ticks later: only A is needed.
        lines = ((0, "any", (0,), 3, (), 0, 0, 0), (0, "all", (0, 1), 0, (), 0, 0, 0))
        whole = (inn[0], (((A,), 1, None), ((B, C, D), 1, None)), lines, inn[3], 1)
        self.told(((A, B), (A, C), (A, D)), own.deaf_pairs, whole, 0, 3)
        self.told(((A, B), (A, C), (A, D), (B, C), (B, D), (C, D)), own.deaf_pairs, whole, 0, 2)

    def test_on_within(self):
        self.told(True, own.on_within, inn, 0, 0, 3)
        self.told(False, own.on_within, inn, 0, 0, 2)
        self.told(False, own.on_within, inn, 1, 1, 9)
        self.told(False, own.on_within, tower, 1, 0, 200)
        self.told(True, own.on_within, tower, 0, 2, 2)

    def test_least_shorter(self):
        for many, told in ((0, 3), (1, 2), (3, 0), (9, 0)):
            self.told(told, own.least_shorter, inn, 0, 0, 0, many)
        # Another LINE's wait does not matter to it.
        self.told(None, own.least_shorter, inn, 1, 0, 0, 2)
        self.told(0, own.least_shorter, inn, 1, 0, 0, 3)
        self.told(None, own.least_shorter, inn, 1, 1, 1, 0)
        self.told(None, own.least_shorter, tower, 0, 1, 0, 0)

    def test_unlike_forms(self):
        self.told(1, own.unlike_forms, inn, 0, 3)
        self.told(1 + 4, own.unlike_forms, inn, 1, 0)
        self.told(1, own.unlike_forms, bare, 2, 3)
        # One ZONE: by two LINES nothing that one of them does not.
        lone = (inn[0], inn[1][:1], (), inn[3], 1)
        self.told(3, own.unlike_forms, lone, 2, 1)


class Alike(StyledCase):
    def test_alike_rising(self):
        self.told(True, own.alike_rising, inn, inn)
        self.told(True, own.alike_rising, tower, tower)
        self.told(False, own.alike_rising, inn, self.changed(2))
        self.told(True, own.alike_rising, bare, bare)
        # Without the LINE that is never first.
        self.told(True, own.alike_rising, tower, tower[:2] + (tower[2][:2] + tower[2][3:],) + tower[3:])

    def changed(self, wait):
        return inn[:2] + ((inn[2][0], (0, "all", (0, 1), wait + 1, (), 1, 0, 0)),) + inn[3:]

    def test_unlike_feelers(self):
        # C is a feeler in both, D in one of them alone: it has that one on alone.
        short = (((0, inn[0][0][1][:4] + (("bell", 0),)),), (((A, B), 1, None), ((B, C), 2, None))) + inn[2:]
        self.assertTrue(is_house(short))
        self.told(False, own.alike_rising, inn, short)
        for pair in ((inn, short), (short, inn)):
            out, begins = own.parting_out(*pair)
            self.assertEqual(out, 1)
            self.assertNotEqual(own.first_ticks(pair[0], begins, ())[1], own.first_ticks(pair[1], begins, ())[1])

    def test_parting_out(self):
        self.raises(CanNot(), own.parting_out, inn, inn)
        self.raises(CanNot(), own.parting_out, bare, bare)
        for one, other in ((inn, self.changed(2)), (self.changed(2), inn)):
            told = own.parting_out(one, other)
            self.told(told, own.parting_out, one, other)
            self.assertEqual(told[0], 1)
            self.assertNotEqual(own.first_ticks(one, told[1], ())[1], own.first_ticks(other, told[1], ())[1])
        # An OUT that is on in one alone.
        none = inn[:2] + ((),) + inn[3:]
        self.assertEqual([own.parting_out(*pair)[0] for pair in ((inn, none), (none, inn))], [0, 0])

    def test_needless_lines(self):
        self.told((), own.needless_lines, inn)
        self.told((2,), own.needless_lines, tower)
        self.told((), own.needless_lines, bare)
        # Each of two alike is needless for itself, not both.
        self.told((0, 1), own.needless_lines, self.doubled())

    def doubled(self):
        return inn[:2] + ((inn[2][0], inn[2][0], inn[2][1]),) + inn[3:]

    def test_line_lots(self):
        self.told([(0, 1)], own.line_lots, inn)
        self.told([(0, 1, 3)], own.line_lots, tower)
        self.told([()], own.line_lots, bare)
        self.told([(0, 2), (1, 2)], own.line_lots, self.doubled())


class Errors(StyledCase):
    def test_unfit_comes_first(self):
        for house in (barred, loft, keep):
            for function, args in (
                (own.zone_form, (9, (GONE,))), (own.line_form, (9, (GONE,))), (own.out_form, (9, (GONE,))),
                (own.first_ticks, (FIRE, (GONE,))), (own.needless_lines, ()), (own.line_lots, ()),
                (own.hangs_on, (9, GONE)), (own.later_without, (9, (GONE,))), (own.deaf_pairs, (9, 0)),
                (own.on_within, (9, 9, 0)), (own.least_shorter, (9, 9, 9, 0)), (own.unlike_forms, (1, 1)),
                (own.alike_rising, (inn,)), (own.parting_out, (inn,)),
            ):
                self.raises(Unfit(), function, house, *args)
            self.raises(Unfit(), own.alike_rising, inn, house)
            self.raises(Unfit(), own.parting_out, inn, house)

    def test_unlike_many_outs(self):
        for one, other in ((inn, tower), (tower, inn), (inn, bare), (crowd, inn)):
            self.raises(Unfit(), own.alike_rising, one, other)
            self.raises(Unfit(), own.parting_out, one, other)

    def test_what_is_not_there(self):
        for number in (-1, 3, 77):
            self.raises(NoZone(number), own.zone_form, tower, number, (GONE,))
            self.raises(NoZone(number), own.on_within, tower, 99, number, 0)
            self.raises(NoZone(number), own.least_shorter, tower, 99, 99, number, 0)
            self.raises(NoOut(number), own.out_form, tower, number, (GONE,))
            self.raises(NoOut(number), own.hangs_on, tower, number, GONE)
            self.raises(NoOut(number), own.later_without, tower, number, (GONE,))
            self.raises(NoOut(number), own.deaf_pairs, tower, number, 0)
            self.raises(NoOut(number), own.on_within, tower, number, 0, 0)
            self.raises(NoOut(number), own.least_shorter, tower, 0, number, 0, 0)
        for number in (-1, 4, 77):
            self.raises(NoLine(number), own.line_form, tower, number, (GONE,))
            self.raises(NoLine(number), own.least_shorter, tower, number, 99, 0, 0)

    def test_no_spot(self):
        for spot in (CUT, BELL, GONE, (0, 7)):
            for function, number in ((own.zone_form, 0), (own.line_form, 0), (own.out_form, 0), (own.later_without, 0)):
                self.raises(NoSpot(spot), function, inn, number, (A, spot) if spot > A else (spot,))
                self.raises(NoSpot(spot), function, inn, number, (spot, GONE))
            self.raises(NoSpot(spot), own.first_ticks, inn, FIRE, (spot, (99, 99)))
            self.raises(NoSpot(spot), own.hangs_on, inn, 0, spot)
        # Ahead of TooMany and of CanNot.
        self.raises(NoSpot((0, 8)), own.out_form, crowd, 0, ((0, 8),))
        self.raises(NoSpot((0, 8)), own.later_without, crowd, 2, ((0, 8),))
        self.raises(NoSpot((0, 8)), own.hangs_on, crowd, 0, (0, 8))
        self.raises(NoSpot((0, 8)), own.first_ticks, crowd, (), ((0, 8),))

    def test_too_many(self):
        self.raises(TooMany(), own.line_form, crowd, 0, ())
        self.raises(TooMany(), own.out_form, crowd, 0, ())
        self.raises(TooMany(), own.first_ticks, crowd, (), ())
        self.raises(TooMany(), own.hangs_on, crowd, 0, (0, 0))
        self.raises(TooMany(), own.later_without, crowd, 0, eight[:4])
        self.raises(TooMany(), own.deaf_pairs, crowd, 0, 0)
        self.raises(TooMany(), own.on_within, crowd, 0, 0, 5)
        self.raises(TooMany(), own.least_shorter, crowd, 0, 0, 0, 5)
        self.raises(TooMany(), own.needless_lines, crowd)
        self.raises(TooMany(), own.line_lots, crowd)
        for function in (own.alike_rising, own.parting_out):
            self.raises(TooMany(), function, crowd, crowd)
            self.raises(TooMany(), function, crowd, tower)
            self.raises(TooMany(), function, tower, crowd)
        # 21 ROWS each are too many still, 15 are not.
        self.raises(TooMany(), own.out_form, crowd, 0, eight[:1])
        self.assertEqual(len(own.out_form(crowd, 0, eight[:2])), 15)
        self.assertEqual(own.first_ticks(crowd, tuple((spot, 4) for spot in eight), eight[:2]), (5, 6, None))
        # What is not asked for is not put together.
        self.assertEqual(len(own.zone_form(crowd, 0, ())), 28)
        self.assertEqual(len(own.out_form(crowd, 1, ())), 3 + 10)
        self.told(None, own.later_without, crowd, 1, eight[7:])
        self.told(True, own.on_within, crowd, 1, 2, 2)

    def test_can_not(self):
        self.raises(CanNot(), own.later_without, tower, 1, ())
        self.raises(CanNot(), own.later_without, tower, 1, (A,))
        self.raises(CanNot(), own.deaf_pairs, tower, 1, 0)
        self.raises(CanNot(), own.deaf_pairs, inn[:2] + ((),) + inn[3:], 0, 0)


class ForAll(unittest.TestCase):
    """Houses by a seed, by all BEGINS of few ticks."""

    def houses(self, seed, many, spots=4):
        dice = random.Random(seed)
        while many:
            house = risen(some_house(dice))
            if len(oracle.spots_of_feelers(house)) <= spots:
                many -= 1
                yield dice, house

    def dense_houses(self, seed, many):
        """Three feelers in many ZONES, up to four LINES to an OUT or two."""
        dice = random.Random(seed)
        ring = (0, (("feel", 0), ("feel", 1), ("feel", 2)))
        for _ in range(many):
            zones = []
            for _ in range(3):
                spots = tuple(sorted(dice.sample(((0, 0), (0, 1), (0, 2)), dice.randint(1, 3))))
                zones.append((spots, dice.randint(1, min(2, len(spots))), None))
            lines = []
            for _ in range(dice.randint(2, 4)):
                lot = tuple(sorted(dice.sample(range(3), dice.randint(1, 3))))
                lines.append((0, dice.choice(("any", "all")), lot, dice.randint(0, 4), (), dice.choice((0, 0, 1)), 0, 0))
            yield dice, ((ring,), tuple(zones), tuple(lines), ("bell", "door"), 1)

    def test_forms_and_plays(self):
        for dice, house in self.houses(41, 120, 8):
            spots = oracle.spots_of_feelers(house)
            for _ in range(4):
                begins = some_begins(dice, spots, 6)
                gone = tuple(spot for spot in spots if dice.randint(0, 4) == 0)
                left = tuple(pair for pair in begins if pair[0] not in gone)
                zones, lines, outs = oracle.first_on(house, left, 12)
                self.assertEqual(oracle.risen_ticks(house, left), (zones, lines, outs))
                self.assertEqual(own.first_ticks(house, begins, gone), outs)
                for rows, function in ((zones, own.zone_form), (lines, own.line_form), (outs, own.out_form)):
                    for number, told in enumerate(rows):
                        form = function(house, number, gone)
                        self.assertTrue(is_form(form) and least_form(form) == form)
                        self.assertEqual(own.form_at(form, begins), told)
                back = dice.randrange(12)
                rows = oracle.course_of((house, oracle.speech_of(left), ((back, ("back",)),), 24))
                again = tuple(
                    min((at for at in range(back, 24) if out in rows[at]["on"]), default=None)
                    for out in range(len(house[3]))
                )
                self.assertEqual(own.first_ticks(house, own.begins_from(begins, back), gone), again)

    def values(self, house, gone=()):
        """For all BEGINS of ticks 0 to 5: when each ZONE is knocked, each OUT is on."""
        spots = oracle.spots_of_feelers(house)
        for begins in oracle.all_begins(spots, (0, 1, 5)):
            left = tuple(pair for pair in begins if pair[0] not in gone)
            zones, _, outs = oracle.risen_ticks(house, left)
            yield begins, zones, outs

    def test_alike_and_needless(self):
        seen = set()
        for dice, house in itertools.chain(self.houses(42, 30, 3), self.dense_houses(46, 60)):
            whole = [outs for _, _, outs in self.values(house)]
            numbers = range(len(house[2]))
            enough = []
            for lot in oracle.all_subsets(numbers):
                part = house[:2] + (tuple(house[2][number] for number in lot),) + house[3:]
                rows = [outs for _, _, outs in self.values(part)]
                self.assertEqual(own.alike_rising(house, part), rows == whole)
                seen.add(rows == whole)
                if rows == whole:
                    enough.append(lot)
                    self.assertRaises(CanNot, own.parting_out, part, house)
                    continue
                for pair in ((house, part), (part, house)):
                    out, begins = own.parting_out(*pair)
                    least = min(at for at in range(len(house[3])) if [r[at] for r in rows] != [r[at] for r in whole])
                    self.assertEqual(out, least)
                    ones, others = [oracle.risen_ticks(own_house, begins)[2] for own_house in pair]
                    self.assertNotEqual(ones[out], others[out])
            self.assertEqual(own.line_lots(house), oracle.least_of(enough))
            rest = tuple(number for number in numbers if tuple(at for at in numbers if at != number) in enough)
            self.assertEqual(own.needless_lines(house), rest)
        self.assertEqual(seen, {True, False})

    def test_lost_spots(self):
        seen = set()
        for dice, house in itertools.chain(self.houses(43, 20, 3), self.dense_houses(47, 60)):
            spots = oracle.spots_of_feelers(house)
            whole = [outs for _, _, outs in self.values(house)]
            for out in range(len(house[3])):
                late = {}
                for gone in oracle.all_subsets(spots):
                    pairs = [
                        (tick(without[out]), tick(outs[out]))
                        for (_, _, without), outs in zip(self.values(house, gone), whole)
                    ]
                    late[gone] = max((one - other for one, other in pairs if other < NEVER), default=-1)
                    if late[gone] == -1:
                        self.assertRaises(CanNot, own.later_without, house, out, gone)
                        continue
                    told = None if late[gone] > NEVER // 2 else late[gone]
                    self.assertEqual(own.later_without(house, out, gone), told)
                    seen.add(told)
                if late[()] == -1:
                    self.assertRaises(CanNot, own.deaf_pairs, house, out, 0)
                    self.assertEqual([own.hangs_on(house, out, spot) for spot in spots], ["never"] * len(spots))
                    continue
                for many in range(4):
                    pairs = tuple(pair for pair in itertools.combinations(spots, 2) if late[pair] > many)
                    self.assertEqual(own.deaf_pairs(house, out, many), pairs)
                for spot in spots:
                    rows = [outs[out] for _, _, outs in self.values(house, (spot,))]
                    told = "never" if rows == [outs[out] for outs in whole] else "some"
                    if all(row is None for row in rows):
                        told = "always"
                    self.assertEqual(own.hangs_on(house, out, spot), told)
        self.assertGreater(len(seen), 3)

    def test_within(self):
        seen = set()
        for dice, house in itertools.chain(self.houses(44, 10, 3), self.dense_houses(48, 40)):
            for zone, out in itertools.product(range(len(house[1])), range(len(house[3]))):
                def late_by(changed):
                    return max(
                        tick(outs[out]) - zones[zone] for _, zones, outs in self.values(changed) if zones[zone] is not None
                    )
                late = late_by(house)
                for many in range(6):
                    self.assertEqual(own.on_within(house, out, zone, many), late <= many)
                for line in range(min(2, len(house[2]))):
                    rows = [late_by(own.with_wait(house, line, wait)) for wait in range(house[2][line][3], -1, -1)]
                    for many in range(4):
                        least = min((less for less, own_late in enumerate(rows) if own_late <= many), default=None)
                        self.assertEqual(own.least_shorter(house, line, out, zone, many), least)
                        seen.add(least)
        self.assertLessEqual({None, 0, 1, 2}, seen)

    def test_unlike_forms(self):
        for dice, house in self.houses(45, 12, 4):
            zones = house[1][:2]
            house = house[:1] + (zones, ()) + house[3:]
            rows = {
                begins: own_zones for begins, own_zones, _ in self.values(house)
            }
            lots = [lot for lot in oracle.all_subsets(range(len(zones))) if lot]
            lines = set()
            for lot, when, wait in itertools.product(lots, (min, max), range(3)):
                lines.add(tuple(min(NEVER, when(tick(row[zone]) for zone in lot) + wait) for row in rows.values()))
            nothing = tuple(NEVER for _ in rows)
            found = {nothing}
            for many in range(3):
                self.assertEqual(own.unlike_forms(house, many, 2), len(found))
                found |= {tuple(map(min, one, other)) for one in found for other in lines}


class Greatest(unittest.TestCase):
    def test_unlike_forms_of_two_zones_of_three(self):
        house = (inn[0], (((A, B, C), 2, None), ((B, C, D), 2, None)), (), inn[3], 1)
        told = [own.unlike_forms(house, many, 3) for many in range(3)]
        self.assertEqual(told[:2], [1, 1 + 16])
        self.assertGreater(told[2], 17)

    def test_four_lines_of_many_rows(self):
        lines = tuple((0, when, (number, 2), wait, (), 0, 20, 0) for number, when, wait in (
            (0, "all", 1), (1, "any", 20), (1, "all", 3), (0, "any", 7)))
        house = crowd[:2] + (lines,) + crowd[3:]
        self.assertEqual(own.line_lots(house), oracle.least_of([lot for lot in own.line_lots(house)]))
        self.assertEqual(own.alike_rising(house, own.with_lines(house, own.line_lots(house)[0])), True)
        self.assertEqual(len(own.deaf_pairs(house, 0, 20)), 28)
