"""Forms [9]."""

import itertools
import random
import unittest

from secondknock import forms as own
from secondknock.errors import CanNot, TooMany
from tests import oracle
from tests.styles import StyledCase

A, B, C, D = (0, 0), (0, 2), (0, 3), (0, 6)
ANY = (((A, 0),), ((B, 0),))
TWO = (((B, 0), (C, 0)), ((B, 0), (D, 0)), ((C, 0), (D, 0)))
FIRE = ((A, 5), (B, 1), (D, 2))


def value_by_words(form, begins):
    """The least, over the ROWS, of the greatest tick plus plus; None is above all numbers."""
    never = 10 ** 9
    ticks = dict(begins)
    rows = [max(ticks.get(spot, never) + plus for spot, plus in row) for row in form]
    least = min(rows, default=never)
    return least if least < never else None


def some_form(dice, rows, spots=(A, B, C), plus=3):
    found = set()
    for _ in range(dice.randint(0, rows)):
        some = sorted(dice.sample(spots, dice.randint(1, len(spots))))
        found.add(tuple((spot, dice.randint(0, plus)) for spot in some))
    return tuple(sorted(found))


class Things(StyledCase):
    ROWS = [((A, 0),), ((A, 3), (B, 0)), (((9, 9), 10 ** 30),), (((0, 10 ** 30), 0), ((1, 0), 0))]
    BAD = [
        ((A, -1),), ((A, None),), ((A, True),), ((B, 0), (A, 0)), ((A, 0), (A, 1)), ((A,),), ((A, 0, 0),), [(A, 0)],
        ([A, 0],), (([0, 0], 0),), (((0, -1), 0),), (((0, True), 0),), (((0,), 0),), (((0, 0, 0), 0),), (A, 0),
        ((None, 0),), ((0, 0),), ((A, "0"),), ((A, (0,)),), (((0, None), 0),), ((A, 0), None),
    ]

    def test_is_form_row(self):
        self.things(self.ROWS, self.BAD + [()], own.is_form_row)

    def test_is_begins(self):
        self.things(self.ROWS + [()], self.BAD, own.is_begins)

    def test_is_form(self):
        good = [(), ANY, TWO, tuple(sorted(self.ROWS)), (((A, 0),), ((A, 1),)), (((A, 0),), ((A, 0), (B, 0)))]
        bad = [(row,) for row in self.BAD] + [
            ANY[::-1], (ANY[0], ANY[0]), list(ANY), (ANY[0], ()), ((),), (list(ANY[0]),), ANY[0], (ANY,), (ANY[0], None),
        ]
        self.things(good, bad, own.is_form)


class Values(StyledCase):
    def test_form_at(self):
        self.told(1, own.form_at, ANY, FIRE)
        self.told(2, own.form_at, TWO, FIRE)
        self.told(None, own.form_at, TWO, FIRE[:2])
        self.told(None, own.form_at, (), FIRE)
        self.told(None, own.form_at, ANY, ())
        self.told(7, own.form_at, (((A, 2), (B, 3)),), FIRE)

    def test_rows_at(self):
        self.told((((B, 0),),), own.rows_at, ANY, FIRE)
        self.told((((B, 0), (D, 0)),), own.rows_at, TWO, FIRE)
        self.told((), own.rows_at, TWO, FIRE[:2])
        self.told((), own.rows_at, (), FIRE)
        # Two ROWS of one value.
        self.told((((A, 0),), ((B, 4),)), own.rows_at, (((A, 0),), ((B, 4),), ((D, 4),)), FIRE)

    def test_lies_over(self):
        row = ((A, 1), (B, 2))
        for other, told in (
            (row, True), (((A, 1),), True), (((A, 2),), False), (((B, 0),), True), (((A, 0), (B, 3)), False),
            (((A, 0), (C, 0)), False), (((A, 1), (B, 2), (C, 0)), False),
        ):
            self.told(told, own.lies_over, row, other)

    def test_least_form(self):
        self.told((), own.least_form, ())
        self.told(TWO, own.least_form, TWO)
        self.told((((A, 0),),), own.least_form, (((A, 0),), ((A, 0), (B, 0)), ((A, 1),)))
        self.told((((A, 0), (B, 3)), ((A, 1),)), own.least_form, (((A, 0), (B, 3)), ((A, 1),), ((A, 1), (B, 1))))

    def test_knock_form(self):
        self.told(ANY, own.knock_form, (A, B), 1)
        self.told(TWO, own.knock_form, (B, C, D), 2)
        self.told((((A, 0), (B, 0)),), own.knock_form, (A, B), 2)
        self.told((), own.knock_form, (A,), 2)
        self.told((), own.knock_form, (), 1)
        self.told((), own.knock_form, (), 2)

    def test_after_and_without(self):
        self.told((((A, 4),), ((B, 4),)), own.after, ANY, 4)
        self.told(TWO, own.after, TWO, 0)
        self.told((), own.after, (), 4)
        self.told((TWO[1],), own.without, TWO, (C,))
        self.told((), own.without, TWO, (B, C))
        self.told(TWO, own.without, TWO, ())
        self.told(TWO, own.without, TWO, (A,))

    def test_either_and_both(self):
        self.told((((A, 0),), ((B, 0),), ((C, 0), (D, 0))), own.either, ANY, TWO)
        self.told((((A, 0), (C, 0), (D, 0)), ((B, 0), (C, 0)), ((B, 0), (D, 0))), own.both, ANY, TWO)
        self.told(ANY, own.either, ANY, ())
        self.told((), own.both, ANY, ())
        self.told((), own.either, (), ())
        self.told((((A, 5), (B, 2)),), own.both, (((A, 5), (B, 1)),), (((A, 3), (B, 2)),))
        # What is told is least, also if what is passed in is not.
        self.told((((A, 0),),), own.either, (((A, 0),), ((A, 0), (B, 0))), ())
        self.told((((A, 2),),), own.both, (((A, 2),), ((A, 2), (B, 0))), (((A, 0),),))

    def test_too_many(self):
        many = tuple((((0, at), 0),) for at in range(401))
        self.assertEqual(own.either(many[:200], many[200:400]), many[:400])
        self.raises(TooMany(), own.either, many[:200], many[200:])
        self.raises(TooMany(), own.either, many, ())
        self.assertEqual(len(own.both(many[:20], many[20:40])), 400)
        self.raises(TooMany(), own.both, many[:20], many[20:41])
        self.assertEqual(own.both(many, ()), ())
        self.assertEqual(own.both(many[:400], many[:1]), many[:1])


class Comparing(StyledCase):
    def test_never_above(self):
        late = own.both(ANY, TWO)
        for form, other, told in (
            (ANY, late, True), (late, TWO, False), (TWO, late, True), (ANY, ANY, True), ((), ANY, False), (ANY, (), True),
            ((), (), True), (own.after(ANY, 1), ANY, False), (ANY, own.after(ANY, 1), True),
        ):
            self.told(told, own.never_above, form, other)

    def test_forms_alike(self):
        self.told(True, own.forms_alike, ANY, (((A, 0),), ((A, 0), (B, 0)), ((A, 7),), ((B, 0),)))
        self.told(False, own.forms_alike, ANY, TWO)
        self.told(False, own.forms_alike, ANY, own.after(ANY, 1))
        self.told(False, own.forms_alike, ANY, ())
        self.told(False, own.forms_alike, (), ANY)
        self.told(True, own.forms_alike, (), ())

    def test_row_begins(self):
        self.told(((A, 3), (B, 0), (C, 1)), own.row_begins, ((A, 0), (B, 3), (C, 2)))
        self.told(((A, 0),), own.row_begins, ((A, 7),))

    def test_parting_begins(self):
        for form, other in ((TWO, ANY), ((), ANY), (own.after(ANY, 1), ANY), (own.both(ANY, TWO), TWO)):
            told = own.parting_begins(form, other)
            self.told(told, own.parting_begins, form, other)
            self.things([told], [(), list(told)], own.is_parting, form, other)
        for form, other in ((ANY, own.both(ANY, TWO)), (ANY, ANY), (ANY, ()), ((), ())):
            self.raises(CanNot(), own.parting_begins, form, other)
            self.told(False, own.is_parting, form, other, FIRE)

    def test_is_parting(self):
        # Never is later than each tick, and not than never.
        self.told(True, own.is_parting, TWO, ANY, ((A, 3),))
        self.told(False, own.is_parting, TWO, ANY, ((C, 3),))
        self.told(False, own.is_parting, TWO, ANY, ((B, 3), (C, 3)))
        self.told(True, own.is_parting, TWO, ANY, ((B, 3), (C, 4), ((7, 7), 0)))
        self.told(False, own.is_parting, ANY, TWO, ((B, 3), (C, 4)))
        self.told(False, own.is_parting, TWO, ANY, ((B, 3), (A, 4)))

    def test_late_by(self):
        self.told(4, own.late_by, own.after(ANY, 4), ANY)
        self.told(-4, own.late_by, ANY, own.after(ANY, 4))
        self.told(None, own.late_by, TWO, ANY)
        self.told(0, own.late_by, ANY, own.both(ANY, TWO))
        self.told(None, own.late_by, ANY, TWO)
        self.told(None, own.late_by, (), ANY)
        self.told(2, own.late_by, (((A, 3), (B, 1)),), (((A, 1), (B, 2)),))
        self.told(-1, own.late_by, (((A, 0), (B, 1)),), (((A, 1), (B, 2)),))
        self.raises(CanNot(), own.late_by, ANY, ())
        self.raises(CanNot(), own.late_by, (), ())


class ForAll(unittest.TestCase):
    """FORMS by a seed, by all BEGINS of few ticks."""

    SPOTS = (A, B, C)
    BEGINS = list(oracle.all_begins(SPOTS, range(5)))

    def values(self, form):
        return [value_by_words(form, begins) for begins in self.BEGINS]

    def test_looks(self):
        dice = random.Random(31)
        for _ in range(120):
            form = some_form(dice, 5)
            self.assertTrue(own.is_form(form))
            least = own.least_form(form)
            self.assertEqual(self.values(least), self.values(form))
            # Less any one ROW it has another value by some BEGINS.
            for at in range(len(least)):
                self.assertNotEqual(self.values(least[:at] + least[at + 1:]), self.values(form))
            for begins in self.BEGINS[::3]:
                value = value_by_words(form, begins)
                self.assertEqual(own.form_at(form, begins), value)
                rows = tuple(row for row in form if value is not None and value_by_words((row,), begins) == value)
                self.assertEqual(own.rows_at(form, begins), rows)

    def test_put_together(self):
        dice = random.Random(32)
        never = 10 ** 9
        for _ in range(120):
            form, other = some_form(dice, 4), some_form(dice, 4)
            either, both = own.either(form, other), own.both(form, other)
            self.assertEqual(own.least_form(either), either)
            self.assertEqual(own.least_form(both), both)
            ones, others = self.values(form), self.values(other)
            pairs = [(never if a is None else a, never if b is None else b) for a, b in zip(ones, others)]
            self.assertEqual([never if own_value is None else own_value for own_value in self.values(either)],
                             [min(pair) for pair in pairs])
            self.assertEqual([never if own_value is None else own_value for own_value in self.values(both)],
                             [max(pair) for pair in pairs])
            self.assertEqual(self.values(own.after(form, 2)), [None if a is None else a + 2 for a in ones])
            lost = tuple(dice.sample(self.SPOTS, 1))
            told = own.without(form, lost)
            for begins in self.BEGINS:
                left = tuple(own_pair for own_pair in begins if own_pair[0] not in lost)
                self.assertEqual(value_by_words(told, begins), value_by_words(form, left))

    def test_knock_forms(self):
        for many in range(4):
            for number in (1, 2):
                form = own.knock_form(self.SPOTS[:many], number)
                for begins in self.BEGINS:
                    ticks = sorted(tick for spot, tick in begins if spot in self.SPOTS[:many])
                    told = ticks[number - 1] if len(ticks) >= number else None
                    self.assertEqual(own.form_at(form, begins), told)

    def test_comparing(self):
        dice = random.Random(33)
        never = 10 ** 9
        seen = set()
        for _ in range(400):
            form, other = some_form(dice, 4, plus=2), some_form(dice, 3, plus=2)
            pairs = [
                (never if a is None else a, never if b is None else b, begins)
                for a, b, begins in zip(self.values(form), self.values(other), self.BEGINS)
            ]
            later = [begins for a, b, begins in pairs if a > b]
            self.assertEqual(own.never_above(form, other), later == [])
            self.assertEqual(own.forms_alike(form, other), all(a == b for a, b, _ in pairs))
            self.assertEqual(own.forms_alike(form, other), own.least_form(form) == own.least_form(other))
            for a, b, begins in pairs[::4]:
                self.assertEqual(own.is_parting(form, other, begins), a > b)
            if later:
                begins = own.parting_begins(form, other)
                self.assertTrue(own.is_parting(form, other, begins))
                self.assertGreater(value_by_words(form, begins) or never, value_by_words(other, begins))
            else:
                self.assertRaises(CanNot, own.parting_begins, form, other)
            if not other:
                self.assertRaises(CanNot, own.late_by, form, other)
                continue
            most = max(a - b for a, b, _ in pairs if b < never)
            seen.add(most > never // 2)
            self.assertEqual(own.late_by(form, other), None if most > never // 2 else most)
        self.assertEqual(seen, {True, False})

    def test_row_begins(self):
        dice = random.Random(34)
        for _ in range(100):
            form = own.least_form(some_form(dice, 6))
            for row in form:
                begins = own.row_begins(row)
                self.assertTrue(own.is_begins(begins))
                self.assertEqual(own.rows_at(form, begins), (row,))
                self.assertEqual(own.form_at(form, begins), max(plus for _, plus in row))

    def test_raised_begins(self):
        dice = random.Random(35)
        for _ in range(100):
            form = some_form(dice, 5)
            for begins in self.BEGINS[::5]:
                raised = tuple((spot, tick + dice.randint(0, 2)) for spot, tick in begins)
                one, other = own.form_at(form, begins), own.form_at(form, raised)
                if one is None:
                    self.assertIsNone(other)
                else:
                    self.assertTrue(one <= other <= one + 2)

    def test_lies_over(self):
        rows = [row for many in (1, 2) for spots in itertools.combinations((A, B), many)
                for row in itertools.product(*[[(spot, plus) for plus in range(3)] for spot in spots])]
        for row, other in itertools.product(rows, repeat=2):
            told = all(spot in dict(row) and dict(row)[spot] >= plus for spot, plus in other)
            self.assertEqual(own.lies_over(row, other), told)

    def test_sixty_rows_of_eight_spots(self):
        dice = random.Random(36)
        spots = tuple((number, at) for number in (0, 1) for at in range(4))
        form, other = some_form(dice, 60, spots, 9), some_form(dice, 6, spots, 9)
        self.assertTrue(own.never_above(form, own.both(form, other)))
        self.assertTrue(own.never_above(own.either(form, other), form))
        self.assertTrue(own.forms_alike(own.least_form(form), form))
