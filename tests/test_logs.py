"""Logs [22]."""

import itertools
import random
import unittest

from secondknock import logs as own
from secondknock.errors import CanNot, NoPlace, NoSpot, Unfit
from tests import oracle
from tests.samples import bare, barred, crowd, eight, inn, keep, loft, risen, some_begins, some_house, tower
from tests.styles import StyledCase

A, B, C, BELL, D = (0, 0), (0, 2), (0, 3), (0, 4), (0, 6)
WAYS = ((0, 1, 2), (1, 2, 3), (2, 0, 4))
LOG, NONE = (10, 13, 13, 15), ((),)
LOST = ("lost",) * 4
# A place to which no way leads; feelers there, and one at a place that the MAP has not.
CELL = (
    ((0, (("feel", 0), ("feel", 1), ("feel", 5))),), ((((0, 0),), 1, None), (((0, 1), (0, 2)), 1, None)),
    ((0, "any", (0,), 1, (), 0, 0, 0),), ("door", "bell"), 1,
)
CELL_WAYS = ((1, 0, 3),)


class Ordinary(StyledCase):
    def test_marks_of(self):
        for place, told in ((0, (0, 2, 3, 4)), (1, (0, 3, 3, 5)), (2, (4, 4, 7, 6))):
            self.told(told, own.marks_of, inn, 3, WAYS, (place, ()))
        self.told((2, 2, 5, 4), own.marks_of, inn, 3, WAYS, (0, (A,)))
        self.told((None, None, None, None), own.marks_of, inn, 3, WAYS, (0, (A, B, C, D)))
        # A place never reached; an OUT without LINES; no MARKS at all.
        self.told((0, None, 1, None), own.marks_of, CELL, 2, CELL_WAYS, (0, ()))
        self.told((3, 0, 4, None), own.marks_of, CELL, 2, CELL_WAYS, (1, ()))
        self.told((), own.marks_of, bare, 1, (), (0, ()))

    def test_hours_that_fit(self):
        for guess, log, late, tick, told in (
            ((1, ()), LOG, 0, 20, (10, 10)), ((1, ()), LOG, 1, 20, (9, 10)), ((0, ()), LOG, 0, 20, None),
            ((2, ()), LOG, 1, 20, None), ((2, ()), (None, None, "lost", None), 0, 9, (6, None)),
            # "lost" alone; None alone.
            ((0, ()), LOST, 0, 20, (0, None)), ((0, ()), (None,) * 4, 0, 0, (1, None)), ((0, ()), (None,) * 4, 3, 2, (0, None)),
            ((0, ()), (None,) * 4, 3, 9, (7, None)), ((0, (A, B, C, D)), (None,) * 4, 0, 9, (0, None)),
            ((0, (A, B, C, D)), ("lost", 3, "lost", "lost"), 0, 9, None),
            # Not ahead of tick 0.
            ((0, ()), (2, "lost", "lost", "lost"), 9, 20, (0, 2)), ((2, ()), (3, "lost", "lost", "lost"), 0, 20, None),
            ((2, ()), (4, "lost", "lost", "lost"), 9, 20, (0, 0)), ((0, ()), (5, None, "lost", "lost"), 0, 9, None),
        ):
            self.told(told, own.hours_that_fit, inn, 3, WAYS, guess, log, late, tick)
        self.told((0, None), own.hours_that_fit, bare, 1, (), (0, ()), (), 0, 0)

    def test_fitting(self):
        self.told([((1, ()), (10, 10))], own.fitting, inn, 3, WAYS, NONE, LOG, 0, 20)
        self.told([((0, ()), (10, 10)), ((1, ()), (9, 10))], own.fitting, inn, 3, WAYS, NONE, LOG, 1, 20)
        self.told([], own.fitting, inn, 3, WAYS, NONE, (0, 13, 13, 15), 0, 20)
        lots = ((), (A,))
        self.told(
            [((place, offs), (0, None)) for place in range(3) for offs in lots], own.fitting, inn, 3, WAYS, lots, LOST, 0, 20
        )

    def test_sure(self):
        self.told((0, 1, 2), own.sure_burnt, inn, 3, WAYS, NONE, LOG, 1, 20)
        # Place 1 burns at its HOUR, the others later.
        self.told((1,), own.sure_burnt, inn, 3, WAYS, NONE, (10, None, None, None), 0, 12)
        # Without an end; a place never reached.
        self.told((), own.sure_burnt, inn, 3, WAYS, NONE, LOST, 0, 20)
        self.told((0,), own.sure_burnt, CELL, 2, CELL_WAYS, NONE, (3, None, 4, "lost"), 0, 9)
        lots = ((A, B), (A, C))
        self.told((A,), own.sure_off, inn, 3, WAYS, lots, LOST, 0, 20)
        self.told((), own.sure_off, inn, 3, WAYS, NONE + lots, LOST, 0, 20)
        for function in (own.sure_burnt, own.sure_off):
            self.raises(CanNot(), function, inn, 3, WAYS, NONE, (0, 13, 13, 15), 0, 20)

    def test_speaks_from(self):
        self.told((9, 12), own.speaks_from, inn, 3, WAYS, NONE, LOG, 1, 20, B)
        # Put off, too; without an end.
        self.told((0, None), own.speaks_from, inn, 3, WAYS, ((A,),), LOST, 0, 20, A)
        # Never in one; in none that fits; none fits.
        self.told((0, None), own.speaks_from, CELL, 2, CELL_WAYS, NONE, LOST, 0, 20, (0, 0))
        self.told((2, None), own.speaks_from, CELL, 2, CELL_WAYS, NONE, ("lost", "lost", 6, "lost"), 0, 9, (0, 1))
        self.told(None, own.speaks_from, CELL, 2, CELL_WAYS, NONE, LOST, 0, 20, (0, 2))
        self.told(None, own.speaks_from, inn, 3, WAYS, NONE, (0, 13, 13, 15), 0, 20, B)

    def test_bars(self):
        self.told((0, 1), own.bar_of, inn, 3, WAYS, (2, ()), LOG, 1, 20)
        self.told((1,), own.bar_of, inn, 3, WAYS, (0, (A, B, C, D)), ("lost", 3, 5, "lost"), 0, 9)
        self.raises(CanNot(), own.bar_of, inn, 3, WAYS, (1, ()), LOG, 1, 20)
        self.raises(CanNot(), own.bar_of, bare, 1, (), (0, ()), (), 0, 0)
        bad = [(0,), (1,), (1, 0), [0, 1], (0, 1, 2), (0, 4), (False, 1), (True,), (0, 0), (4,), (-1,), ("lost",), (0, None)]
        good = [(0, 1), (0, 3), (1, 2), (2, 3)]
        self.things(good, bad + [(0, 2), (1, 3)], own.is_bar, inn, 3, WAYS, (2, ()), LOG, 1, 20)
        # One that has a BAR within it is one, too.
        off = (0, (A, B, C, D))
        self.things([(1,), (2,), (0, 1), (1, 2), (2, 3)], [(0,), (0, 3)], own.is_bar, inn, 3, WAYS, off, ("lost", 3, 5, "lost"), 0, 9)

    def test_barring_lots(self):
        self.told([(0, 2), (0, 3), (1, 3)], own.barring_lots, inn, 3, WAYS, NONE, (10, 13, 14, 16), 0, 20)
        self.told([], own.barring_lots, inn, 3, WAYS, NONE, LOG, 0, 20)
        self.told([], own.barring_lots, inn, 3, WAYS, NONE, LOST, 0, 20)
        self.told([(0,), (1,), (2,), (3,)], own.barring_lots, inn, 3, WAYS, ((A, B, C, D),), LOG, 0, 20)

    def test_best_look(self):
        self.told((A, 1), own.best_look, inn, 3, WAYS, NONE, LOG, 1, 20)
        # Nothing that fits; no two; HOURS without an end have all ticks in common at last.
        self.told((A, 0), own.best_look, inn, 3, WAYS, NONE, (0, 13, 13, 15), 0, 20)
        self.told((A, 0), own.best_look, inn, 3, WAYS, NONE, LOG, 0, 20)
        self.told((A, 0), own.best_look, inn, 3, WAYS, NONE, LOST, 0, 20)
        # Never in one of both.
        self.told(((0, 1), 1), own.best_look, CELL, 2, CELL_WAYS, NONE, LOST, 0, 20)
        self.raises(CanNot(), own.best_look, bare, 1, (), NONE, (), 0, 20)

    def test_orders(self):
        self.told((1, 0), own.order_of, inn, ((A, 5), (C, 1), (D, 2)))
        self.told((0, 0), own.order_of, inn, ((B, 1), (D, 1)))
        self.told((0, None), own.order_of, inn, ((A, 9),))
        self.told((), own.order_of, bare, ())
        self.told([(0, 0), (0, 1), (0, None), (1, 0), (None, 0), (None, None)], own.knock_orders, inn)
        self.told([()], own.knock_orders, bare)
        # One ZONE that has all of the other one is never behind it.
        both = (CELL[0], ((((0, 0),), 1, None), (((0, 0), (0, 1)), 1, None)), (), (), 1)
        self.told([(0, 0), (1, 0), (None, 0), (None, None)], own.knock_orders, both)
        for order in own.knock_orders(inn):
            told = own.order_begins(inn, order)
            self.told(told, own.order_begins, inn, order)
            self.assertEqual(own.order_of(inn, told), order)
        self.told((), own.order_begins, bare, ())
        for order in ((1, 1), (0, 2), (None, 1), (1, None)):
            self.raises(CanNot(), own.order_begins, inn, order)
        self.raises(CanNot(), own.order_begins, both, (0, 1))
        self.raises(CanNot(), own.order_begins, both, (0, None))


class Errors(StyledCase):
    def behind(self):
        """Each function of lots, and what it takes behind the usual."""
        return (
            (own.fitting, ()), (own.sure_burnt, ()), (own.sure_off, ()), (own.speaks_from, ((9, 9),)),
            (own.barring_lots, ()), (own.best_look, ()),
        )

    def test_unfit(self):
        for house in (barred, loft, keep, risen(loft), tower):
            self.raises(Unfit(), own.marks_of, house, 3, WAYS, (9, (BELL,)))
            self.raises(Unfit(), own.hours_that_fit, house, 3, WAYS, (9, (BELL,)), LOG, 0, 20)
            self.raises(Unfit(), own.bar_of, house, 3, WAYS, (9, (BELL,)), LOG, 0, 20)
            self.raises(Unfit(), own.is_bar, house, 3, WAYS, (9, (BELL,)), LOG, 0, 20, None)
            for function, more in self.behind():
                self.raises(Unfit(), function, house, 3, WAYS, ((BELL,),), LOG, 0, 20, *more)
            self.raises(Unfit(), own.order_of, house, ())
            self.raises(Unfit(), own.knock_orders, house)
            self.raises(Unfit(), own.order_begins, house, (1, 1))

    def test_no_place_and_no_spot(self):
        for place in (-1, 3, 9):
            guess = (place, (BELL,))
            self.raises(NoPlace(place), own.marks_of, inn, 3, WAYS, guess)
            self.raises(NoPlace(place), own.hours_that_fit, inn, 3, WAYS, guess, LOG, 0, 20)
            self.raises(NoPlace(place), own.bar_of, inn, 3, WAYS, guess, LOG, 0, 20)
            self.raises(NoPlace(place), own.is_bar, inn, 3, WAYS, guess, LOG, 0, 20, None)
        for offs, first in (((A, BELL, (9, 9)), BELL), (((0, 1),), (0, 1)), (((0, 7), (1, 0)), (0, 7))):
            guess = (0, offs)
            self.raises(NoSpot(first), own.marks_of, inn, 3, WAYS, guess)
            self.raises(NoSpot(first), own.hours_that_fit, inn, 3, WAYS, guess, LOG, 0, 20)
            self.raises(NoSpot(first), own.bar_of, inn, 3, WAYS, guess, LOST, 0, 20)
            self.raises(NoSpot(first), own.is_bar, inn, 3, WAYS, guess, LOG, 0, 20, None)
            for function, more in self.behind():
                self.raises(NoSpot(first), function, inn, 3, WAYS, ((), (A,), offs), (0, 13, 13, 15), 0, 20, *more)
        # Last for spot, also where none fits.
        for spot in (BELL, (0, 1), (0, 9)):
            self.raises(NoSpot(spot), own.speaks_from, inn, 3, WAYS, NONE, LOG, 0, 20, spot)
            self.raises(NoSpot(spot), own.speaks_from, inn, 3, WAYS, NONE, (0, 13, 13, 15), 0, 20, spot)


LAST = 30


class Guessing:
    """What fits by the words of the point, HOUR by HOUR up to LAST."""

    def __init__(self, house, places, ways, late, tick):
        self.house, self.places, self.ways, self.late, self.tick = house, places, ways, late, tick

    def arrival(self, place, spot_place):
        if spot_place >= self.places:
            return None
        return oracle.arrivals(self.places, self.ways, place)[spot_place]

    def marks(self, guess, hour):
        place, offs = guess
        begins = []
        for spot in oracle.spots_of_feelers(self.house):
            tick = self.arrival(place, self.house[0][spot[0]][1][spot[1]][1])
            if tick is not None and spot not in offs:
                begins.append((spot, hour + tick))
        zones, _, outs = oracle.risen_ticks(self.house, tuple(begins))
        return zones + outs

    def hours(self, guess, log):
        found = []
        for hour in range(LAST):
            good = True
            for comes, noted in zip(self.marks(guess, hour), log):
                if noted is None:
                    good = good and (comes is None or comes >= self.tick - self.late + 1)
                elif noted != "lost":
                    good = good and comes is not None and 0 <= noted - comes <= self.late
            if good:
                found.append(hour)
        return found


def some_log(dice, told, tick):
    """A LOG that mostly tells what came, or "lost"."""
    log = []
    for mark in told:
        kind = dice.randint(0, 5)
        if kind == 0:
            log.append("lost")
        elif kind == 1:
            log.append(dice.choice((None, dice.randint(0, tick))))
        else:
            log.append(mark if mark is not None and mark <= tick else None)
    return tuple(log)


class ForAll(unittest.TestCase):
    def cases(self, seed, many):
        dice = random.Random(seed)
        while many:
            house = risen(some_house(dice))
            if house[4] != 1 or not house[1]:
                continue
            many -= 1
            places = dice.randint(1, 3)
            pairs = [(a, b) for a in range(places) for b in range(places) if a != b]
            pairs = sorted(dice.sample(pairs, dice.randint(0, len(pairs))))
            ways = tuple((a, b, dice.randint(1, 4)) for a, b in pairs)
            feelers = oracle.spots_of_feelers(house)
            lots = tuple(sorted({tuple(sorted(dice.sample(feelers, dice.randint(0, min(2, len(feelers)))))) for _ in range(2)}))
            late, tick = dice.randint(0, 3), dice.randint(0, 12)
            guessing = Guessing(house, places, ways, late, tick)
            true = (dice.randrange(places), dice.choice(lots))
            log = some_log(dice, guessing.marks(true, dice.randint(0, 6)), tick)
            yield dice, guessing, lots, log

    def span(self, hours):
        """The pair of the least and the greatest HOUR, which are one stretch; without end if the last one tried fits."""
        if not hours:
            return None
        self.assertEqual(hours, list(range(hours[0], hours[-1] + 1)))
        return (hours[0], None if hours[-1] == LAST - 1 else hours[-1])

    def test_all_guesses(self):
        kinds = {"none": 0, "one": 0, "more": 0, "barred": 0}
        for dice, so, lots, log in self.cases(221, 160):
            common = (so.house, so.places, so.ways)
            last = (log, so.late, so.tick)
            rows = []
            for guess in itertools.product(range(so.places), lots):
                self.assertEqual(own.marks_of(*common, guess), so.marks(guess, 0))
                hours = so.hours(guess, log)
                self.assertEqual(own.hours_that_fit(*common, guess, *last), self.span(hours))
                self.check_bars(so, guess, log, hours)
                if hours:
                    rows.append((guess, hours))
                else:
                    kinds["barred"] += 1
            self.assertEqual(own.fitting(*common, lots, *last), [(guess, self.span(hours)) for guess, hours in rows])
            self.check_sure(so, lots, log, rows)
            self.check_spots(so, lots, log, rows)
            self.check_lots(so, lots, log)
            kinds["none" if not rows else "one" if len(rows) == 1 else "more"] += 1
        self.assertGreater(min(kinds.values()), 5)

    def check_bars(self, so, guess, log, hours):
        numbers = range(len(log))
        found = []
        for known in [(mark,) for mark in numbers] + list(itertools.combinations(numbers, 2)):
            told = tuple(noted if mark in known else "lost" for mark, noted in enumerate(log))
            is_one = so.hours(guess, told) == []
            self.assertIs(own.is_bar(so.house, so.places, so.ways, guess, log, so.late, so.tick, known), is_one)
            found += [known] * is_one
        args = (so.house, so.places, so.ways, guess, log, so.late, so.tick)
        if hours:
            self.assertEqual(found, [])
            self.assertRaises(CanNot, own.bar_of, *args)
        else:
            self.assertEqual(own.bar_of(*args), found[0])

    def check_sure(self, so, lots, log, rows):
        args = (so.house, so.places, so.ways, lots, log, so.late, so.tick)
        if not rows:
            self.assertRaises(CanNot, own.sure_burnt, *args)
            self.assertRaises(CanNot, own.sure_off, *args)
            return
        burnt = [
            place for place in range(so.places)
            if all(
                so.arrival(guess[0], place) is not None and hour + so.arrival(guess[0], place) <= so.tick
                for guess, hours in rows for hour in hours
            )
        ]
        self.assertEqual(own.sure_burnt(*args), tuple(burnt))
        feelers = oracle.spots_of_feelers(so.house)
        off = [spot for spot in feelers if all(spot in guess[1] for guess, _ in rows)]
        self.assertEqual(own.sure_off(*args), tuple(off))

    def check_spots(self, so, lots, log, rows):
        args = (so.house, so.places, so.ways, lots, log, so.late, so.tick)
        looks = []
        for spot in oracle.spots_of_feelers(so.house):
            place = so.house[0][spot[0]][1][spot[1]][1]
            told = []
            for guess, hours in rows:
                arrival = so.arrival(guess[0], place)
                # None is never; LAST and more stands for no end.
                ticks = {None} if arrival is None else {hour + arrival for hour in hours}
                if arrival is not None and hours[-1] == LAST - 1:
                    ticks |= set(range(LAST, LAST + 60))
                told.append(ticks)
            everything = set().union(*told)
            spoken = everything - {None}
            if not spoken:
                expected = None
            else:
                endless = None in everything or max(spoken) >= LAST + 20
                expected = (min(spoken), None if endless else max(spoken))
            self.assertEqual(own.speaks_from(*args, spot), expected)
            looks.append((-sum(not one & other for one, other in itertools.combinations(told, 2)), spot))
        if looks:
            self.assertEqual(own.best_look(*args), (min(looks)[1], -min(looks)[0]))

    def check_lots(self, so, lots, log):
        found = []
        for known in oracle.all_subsets(range(len(log))):
            told = tuple(noted if mark in known else "lost" for mark, noted in enumerate(log))
            if not any(so.hours(guess, told) for guess in itertools.product(range(so.places), lots)):
                found.append(known)
        found = sorted(oracle.least_of(found), key=lambda row: (len(row), row))
        self.assertEqual(own.barring_lots(so.house, so.places, so.ways, lots, log, so.late, so.tick), found)

    def test_all_orders(self):
        sizes = set()
        dice = random.Random(222)
        many = 40
        while many:
            house = risen(some_house(dice))
            feelers = oracle.spots_of_feelers(house)
            if house[4] != 1 or len(feelers) > 5:
                continue
            many -= 1
            found = set()
            for begins in oracle.all_begins(feelers, range(3)):
                times = oracle.risen_ticks(house, begins)[0]
                order = tuple(
                    None if tick is None else len({other for other in times if other is not None and other < tick})
                    for tick in times
                )
                self.assertEqual(own.order_of(house, begins), order)
                found.add(order)
            told = own.knock_orders(house)
            self.assertEqual(told, sorted(found, key=lambda row: [oracle.later(tick) for tick in row]))
            for order in itertools.product((0, 1, 2, None), repeat=len(house[1])):
                if order in found:
                    self.assertEqual(own.order_of(house, own.order_begins(house, order)), order)
                else:
                    self.assertRaises(CanNot, own.order_begins, house, order)
            sizes.add(len(told))
        self.assertGreater(len(sizes), 4)


class Greatest(StyledCase):
    def test_six_places_ten_ways_eight_feelers(self):
        ways = tuple(sorted((a, b, 20 - a - b) for a, b in (
            (0, 1), (1, 2), (2, 3), (3, 4), (4, 5), (5, 0), (0, 3), (2, 0), (4, 1), (5, 2))))
        lots = tuple(sorted(oracle.all_subsets(eight[:5])))
        marks = own.marks_of(crowd[:2] + (crowd[2][1:],) + crowd[3:], 6, ways, (0, ()))
        log = tuple(None if mark is None else mark + 100 for mark in marks)
        house = crowd[:2] + (crowd[2][1:],) + crowd[3:]
        told = own.fitting(house, 6, ways, lots, log, 3, 200)
        self.assertIn(((0, ()), (97, 100)), told)
        self.assertEqual(len(own.best_look(house, 6, ways, lots, log, 3, 200)), 2)
        self.assertEqual(own.barring_lots(house, 6, ways, lots, log, 3, 200), [])
        late = 10 ** 6
        self.told((10 ** 6 - 5, None), own.hours_that_fit, inn, 3, WAYS, (0, ()), ("lost", "lost", "lost", None), 0, 10 ** 6 - 2)
        self.assertEqual(own.fitting(house, 6, ways, lots, log, late, 200), own.fitting(house, 6, ways, lots, log, 10 ** 9, 200))

    def test_orders_of_three_zones(self):
        told = own.knock_orders(crowd)
        for order in told:
            self.assertEqual(own.order_of(crowd, own.order_begins(crowd, order)), order)
        row = (0, tuple(("feel", at) for at in range(8)))
        free = ((row,), ((eight[:3], 2, None), (eight[3:6], 2, None), (eight[6:], 1, None)), (), (), 1)
        self.assertEqual(len(own.knock_orders(free)), 13 + 3 * 3 + 3 + 1)
