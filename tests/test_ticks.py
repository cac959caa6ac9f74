"""A tick [7]."""

import random
import unittest

from secondknock import ticks as own
from secondknock.errors import NoGap, NoLine, NoPanel, NoSpot
from secondknock.houses import is_deed
from tests import oracle
from tests.samples import bare, barred, crack, inn, keep, loft, short, some_deed, some_play
from tests.styles import StyledCase

FRESH = ((), (), (), (), ((None, None),), (("idle", None, None), ("idle", None, None)), (), (None, None), False)


def put(stand, **parts):
    """The STAND with some of its parts, by name, others."""
    names = ("faults", "offs", "parted", "counted", "seen", "lines", "asked", "outs", "mute")
    return tuple(parts.get(name, own_part) for name, own_part in zip(names, stand))


class Stands(StyledCase):
    def test_fresh_stand(self):
        self.told(FRESH, own.fresh_stand, inn)
        self.told(((), (), (), (), ((),), (), (), (), False), own.fresh_stand, bare)
        idle = ("idle", None, None)
        self.told(((), (), (), (), ((None,) * 3,) * 3, (idle,) * 4, (), (None,) * 3, False), own.fresh_stand, keep)

    def test_is_stand(self):
        good = [
            FRESH, put(FRESH, faults=(crack, short)), put(FRESH, offs=((0, 0), (0, 6))),
            put(FRESH, counted=(((0, 0), 5), ((0, 2), 0))), put(FRESH, seen=((None, 10 ** 30),)),
            put(FRESH, lines=(("waits", 1, 1), ("on", 0, 9))), put(FRESH, lines=(("barred", 3, 4), FRESH[5][0])),
            put(FRESH, asked=(0, 1)), put(FRESH, outs=(0, 4)), put(FRESH, mute=True),
        ]
        bad = [FRESH[:8], FRESH + (False,), list(FRESH), put(FRESH, mute=0), put(FRESH, mute=1), put(FRESH, mute=None)]
        bad += [put(FRESH, faults=row) for row in (
            (short, crack), (crack, crack), (("break", (0, 4)), short), (("break", (1, 0)),), [], None, (short, None),
        )]
        bad += [put(FRESH, offs=row) for row in (((0, 1),), ((0, 4),), ((0, 2), (0, 0)), ((0, 9),), [], 0, ([0, 0],))]
        bad += [put(FRESH, parted=row) for row in ((0,), [], None, (None,))]
        bad += [put(FRESH, counted=row) for row in (
            (((0, 1), 0),), (((0, 0), -1),), (((0, 0), None),), (((0, 2), 0), ((0, 0), 0)), [], ((0, 0),),
            (((0, 0), 0), ((0, 0), 1)), (((0, 0), True),), ([(0, 0), 1],), (((0, 0), 0, 0),),
        )]
        bad += [put(FRESH, seen=row) for row in (
            (None, None), ((None,),), ((None, None),) * 2, ((None, -1),), ((None, False),), ([None, None],), (), [()],
        )]
        idle = FRESH[5][0]
        bad += [put(FRESH, lines=row) for row in (
            (idle,), (idle,) * 3, [idle, idle], (list(idle), idle), (("idle", 0, 0), idle), (("idle", None, 0), idle), (("idle", 0, None), idle),
            (("waits", None, None), idle), (("waits", 2, 1), idle), (("waits", -1, 1), idle), (("on", 0, None), idle),
            (("off", 0, 0), idle), (("on", True, 2), idle), (("on", 0), idle), (("on", 0, True), idle), (None, idle),
            (("barred", None, 3), idle), ((None, None, None), idle), (("on", 0, 0, 0), idle), (([], 0, 0), idle),
        )]
        bad += [put(FRESH, asked=row) for row in ((2,), (1, 0), (0, 0), (-1,), (True,), [], None)]
        bad += [put(FRESH, outs=row) for row in ((None,), (None,) * 3, [None, None], (-1, None), (True, None), ())]
        self.things(good, bad, own.is_stand, inn)
        three = own.fresh_stand(keep)
        good = [three, put(three, parted=(0, 1, 2)), put(three, seen=((0, None, None), (1, 2, 3), (None, 4, 4)))]
        bad = [FRESH, put(three, parted=(3,)), put(three, parted=(1, 0)), put(three, parted=(True,))]
        bad += [put(three, seen=((0, None, None), (1, 2, 3), (None, 4))), put(three, seen=((None,) * 3,) * 2)]
        self.things(good, bad, own.is_stand, keep)
        self.things([own.fresh_stand(bare)], [FRESH], own.is_stand, bare)

    def test_speaking(self):
        speech = (((0, 0), ((1, 3), (4, 5))), ((0, 2), ((2, None),)))
        for tick, told in enumerate(((), ((0, 0),), ((0, 0), (0, 2)), ((0, 2),), ((0, 0), (0, 2)), ((0, 2),))):
            self.told(told, own.speaking, speech, tick)
        self.told(((0, 2),), own.speaking, speech, 200)
        self.told((), own.speaking, (), 0)

    def test_patience(self):
        for house, told in ((inn, 7), (barred, 7), (loft, 2), (keep, 6), (bare, 0)):
            self.told(told, own.patience, house)
        zones = ((((0, 0),), 1, 20),)
        self.told(20, own.patience, (inn[0], zones, (), (), 1))
        self.told(0, own.patience, (inn[0], inn[1], (), (), 1))


class Deeds(StyledCase):
    def test_put_off_and_on(self):
        off = put(FRESH, offs=((0, 2),))
        self.told(True, own.can_do, inn, FRESH, ("off", (0, 2)))
        self.told(off, own.after_deed, inn, FRESH, ("off", (0, 2)))
        self.told(False, own.can_do, inn, off, ("off", (0, 2)))
        self.told(off, own.after_deed, inn, off, ("off", (0, 2)))
        self.told(True, own.can_do, inn, off, ("on", (0, 2)))
        self.told(FRESH, own.after_deed, inn, off, ("on", (0, 2)))
        self.told(False, own.can_do, inn, FRESH, ("on", (0, 2)))
        self.told(put(FRESH, offs=((0, 0), (0, 2))), own.after_deed, inn, off, ("off", (0, 0)))

    def test_harm_and_heal(self):
        harmed = put(FRESH, faults=(short,))
        self.told(harmed, own.after_deed, inn, FRESH, ("harm", short))
        self.told(put(FRESH, faults=(crack, short)), own.after_deed, inn, harmed, ("harm", crack))
        for deed in (("harm", short), ("harm", ("break", (0, 4))), ("heal", ("break", (0, 4))), ("heal", crack)):
            self.told(False, own.can_do, inn, harmed, deed)
            self.told(harmed, own.after_deed, inn, harmed, deed)
        self.told(True, own.can_do, inn, harmed, ("heal", short))
        self.told(FRESH, own.after_deed, inn, harmed, ("heal", short))

    def test_part_and_join(self):
        fresh = own.fresh_stand(loft)
        self.told(put(fresh, parted=(1,)), own.after_deed, loft, fresh, ("part", 1))
        self.told(put(fresh, parted=(0, 1)), own.after_deed, loft, put(fresh, parted=(1,)), ("part", 0))
        self.told(fresh, own.after_deed, loft, put(fresh, parted=(1,)), ("join", 1))
        self.told(False, own.can_do, loft, fresh, ("join", 1))
        self.told(False, own.can_do, loft, put(fresh, parted=(1,)), ("part", 1))

    def test_quiet_and_sound_are_never_passed_over(self):
        mute = put(FRESH, mute=True)
        for stand in (FRESH, mute):
            for word in ("quiet", "sound", "back"):
                self.told(True, own.can_do, inn, stand, (word,))
            self.told(mute, own.after_deed, inn, stand, ("quiet",))
            self.told(FRESH, own.after_deed, inn, stand, ("sound",))
            self.told(FRESH, own.after_deed, inn, stand, ("back",))

    def test_more(self):
        waits = put(FRESH, lines=(("waits", 1, 4), ("waits", 2, 2)))
        asked = put(waits, lines=(("waits", 1, 8), ("waits", 2, 2)), asked=(0,))
        self.told(asked, own.after_deed, inn, waits, ("more", 0))
        self.told(False, own.can_do, inn, asked, ("more", 0))
        self.told(asked, own.after_deed, inn, asked, ("more", 0))
        self.told(put(asked, asked=(0, 1)), own.after_deed, inn, asked, ("more", 1))
        for state in ("on", "barred"):
            self.told(False, own.can_do, inn, put(FRESH, lines=((state, 1, 4), FRESH[5][0])), ("more", 0))
        self.told(False, own.can_do, inn, FRESH, ("more", 0))

    def test_back(self):
        full = (
            (crack,), ((0, 2),), (), (((0, 0), 3),), ((3, None),), (("waits", 3, 10), ("on", 1, 2)), (0, 1), (None, 2),
            True,
        )
        # LINE 0 of inn keeps being asked (again 0), that of barred is not asked any more (again 1).
        self.told(put(FRESH, faults=(crack,), offs=((0, 2),), asked=(0, 1)), own.after_deed, inn, full, ("back",))
        self.told(put(FRESH, faults=(crack,), offs=((0, 2),), asked=(1,)), own.after_deed, barred, full, ("back",))
        parted = put(own.fresh_stand(loft), parted=(0, 1), mute=True)
        self.told(put(parted, mute=False), own.after_deed, loft, parted, ("back",))

    def test_errors(self):
        fresh = own.fresh_stand(loft)
        for error, deed in (
            (NoSpot((0, 1)), ("off", (0, 1))), (NoSpot((1, 1)), ("on", (1, 1))), (NoSpot((2, 0)), ("off", (2, 0))),
            (NoSpot((0, -1)), ("off", (0, -1))), (NoLine(2), ("more", 2)), (NoLine(-1), ("more", -1)),
            (NoGap((0, 8)), ("harm", ("break", (0, 8)))), (NoGap((2, 0)), ("heal", ("short", (2, 0)))),
            (NoPanel(2), ("part", 2)), (NoPanel(-1), ("join", -1)),
        ):
            self.raises(error, own.can_do, loft, fresh, deed)
            self.raises(error, own.after_deed, loft, fresh, deed)
            self.raises(error, own.after_tick, loft, fresh, (("back",), deed, ("part", 9)), (), 0)
        self.raises(NoPanel(0), own.can_do, inn, FRESH, ("part", 0))
        self.raises(NoPanel(0), own.can_do, bare, own.fresh_stand(bare), ("join", 0))


class Ticks(StyledCase):
    def test_counting(self):
        self.told(((0, 0), (0, 2)), own.counting, inn, FRESH, ((0, 0), (0, 2)))
        self.told(((0, 0),), own.counting, inn, put(FRESH, offs=((0, 2),)), ((0, 0), (0, 2)))
        self.told(((0, 0),), own.counting, inn, put(FRESH, faults=(short,)), ((0, 0), (0, 2)))
        self.told((), own.counting, inn, FRESH, ())

    def test_deeds_of_one_tick_in_their_order(self):
        on, off = ("on", (0, 2)), ("off", (0, 2))
        told = own.after_tick(inn, FRESH, (off, on), ((0, 2),), 0)
        self.assertEqual((told[1], told[3]), ((), (((0, 2), 0),)))
        told = own.after_tick(inn, FRESH, (on, off), ((0, 2),), 0)
        self.assertEqual((told[1], told[3]), (((0, 2),), ()))
        harm, heal = ("harm", ("break", (0, 4))), ("heal", short)
        told = own.after_tick(inn, put(FRESH, faults=(short,)), (harm, heal), (), 0)
        self.assertEqual(told[0], ())
        told = own.after_tick(inn, put(FRESH, faults=(short,)), (heal, harm), (), 0)
        self.assertEqual(told[0], (("break", (0, 4)),))
        self.told(told, own.after_tick, inn, put(FRESH, faults=(short,)), (heal, harm), (), 0)

    def test_quiet_and_a_new_knock_at_one_tick(self):
        told = own.after_tick(inn, FRESH, (("quiet",),), ((0, 0),), 3)
        self.told(put(FRESH, counted=(((0, 0), 3),), seen=((3, None),), lines=(("waits", 3, 6), FRESH[5][0])),
                  own.after_tick, inn, FRESH, (("quiet",),), ((0, 0),), 3)
        # No new knock, so it stays mute.
        again = own.after_tick(inn, told, (("quiet",),), ((0, 0),), 4)
        self.assertTrue(again[8])
        # A knock of another ZONE ends that.
        self.assertFalse(own.after_tick(inn, again, (("quiet",),), ((0, 2), (0, 3)), 5)[8])

    def test_back_while_a_line_waits(self):
        waits = own.after_tick(inn, FRESH, (), ((0, 0),), 1)
        self.told(put(FRESH), own.after_tick, inn, waits, (("back",),), (), 3)
        begun = own.after_tick(inn, waits, (("back",),), ((0, 0),), 3)
        self.assertEqual(begun[5][0], ("waits", 3, 6))
        late = own.after_tick(inn, begun, (), (), 6)
        self.assertEqual((late[5][0], late[7]), (("on", 3, 6), (6, None)))
        self.assertEqual(own.after_tick(inn, late, (("back",),), (), 7), FRESH)

    def test_back_and_an_asked_line(self):
        for house, again in ((inn, 0), (barred, 1)):
            waits = own.after_tick(house, FRESH, (), ((0, 0),), 1)
            asked = own.after_tick(house, waits, (("more", 0),), (), 2)
            self.assertEqual((asked[5][0], asked[6]), (("waits", 1, 8), (0,)))
            back = own.after_tick(house, asked, (("back",),), ((0, 0),), 3)
            self.assertEqual((back[5][0], back[6]), (("waits", 3, 6), () if again else (0,)))
            more = own.after_tick(house, back, (("more", 0),), (), 4)
            self.assertEqual(more[5][0], ("waits", 3, 10) if again else ("waits", 3, 6))

    def test_more_at_the_tick_of_the_end(self):
        waits = own.after_tick(inn, FRESH, (), ((0, 0),), 1)
        self.assertEqual(own.after_tick(inn, waits, (), (), 4)[5][0], ("on", 1, 4))
        self.assertEqual(own.after_tick(inn, waits, (("more", 0),), (), 4)[5][0], ("waits", 1, 8))

    def test_begins_and_ends_at_one_tick(self):
        fresh = own.fresh_stand(loft)
        told = own.after_tick(loft, fresh, (), ((0, 0), (1, 0)), 5)
        self.assertEqual(told[5], (("on", 5, 5), ("waits", 5, 7)))
        self.assertEqual(told[7], (5, None))

    def test_an_out_comes_on_only_as_a_line_ends(self):
        stand = put(FRESH, lines=(("on", 1, 4), ("waits", 2, 6)))
        self.assertEqual(own.after_tick(inn, stand, (), (), 5)[7], (None, None))
        self.assertEqual(own.after_tick(inn, stand, (), (), 6)[7], (None, 6))
        # An end that went by ahead of this tick counts, too.
        self.assertEqual(own.after_tick(inn, stand, (), (), 9)[5:8:2], ((("on", 1, 4), ("on", 2, 6)), (None, 9)))

    def test_barred_at_the_very_tick_of_its_end(self):
        one = own.after_tick(loft, own.fresh_stand(loft), (), ((1, 0),), 5)
        self.assertEqual(own.after_tick(loft, one, (), ((0, 0),), 7)[5][1], ("barred", 5, 7))
        late = own.after_tick(loft, own.after_tick(loft, one, (), (), 7), (), ((0, 0),), 8)
        self.assertEqual(late[5][1], ("on", 5, 7))

    def test_stays(self):
        spots, pair = ((0, 2), (0, 3)), {1: (2, 3), 2: (2, 4), 20: (2, 22), None: (2, 200)}
        for stay, (one, other) in pair.items():
            house = (inn[0], ((spots, 2, stay),), (), (), 1)
            first = own.after_tick(house, own.fresh_stand(house), (), spots[:1], one)
            self.assertEqual(own.knocked(house, first), ())
            told = own.after_tick(house, first, (), spots[1:], other)
            self.assertEqual(own.knocked(house, told), (0,))
            if stay is not None:
                told = own.after_tick(house, first, (), spots[1:], one + stay + 1)
                self.assertEqual(own.knocked(house, told), ())
        house = (inn[0], ((spots, 2, 0),), (), (), 1)
        first = own.after_tick(house, own.fresh_stand(house), (), spots[:1], 8)
        self.assertEqual(own.knocked(house, own.after_tick(house, first, (), spots[1:], 9)), ())
        self.assertEqual(own.knocked(house, own.after_tick(house, own.fresh_stand(house), (), spots, 9)), (0,))

    def test_links(self):
        zones, lines = ((((0, 0),), 1, None),), ((1, "any", (0,), 0, (), 0, 0, 0),)
        for panels, links, sees in (
            (2, (), True), (2, (0,), True), (2, (1,), True), (2, (0, 1), False), (3, (0,), True), (3, (0, 1), False),
            (3, (1, 2), True), (3, (0, 2), False), (3, (0, 1, 2), False),
        ):
            house = (inn[0], zones, lines, ("bell",), panels)
            parted = put(own.fresh_stand(house), parted=links)
            told = own.after_tick(house, parted, (), ((0, 0),), 4)
            self.assertEqual(told[4][1], (4 if sees else None,), (panels, links))
            self.assertEqual(told[7], (4 if sees else None,))
            joined = own.after_tick(house, told, tuple(("join", link) for link in links), (), 6)
            self.assertEqual(joined[4][1], (4 if sees else 6,))
            # What has been seen stays seen.
            apart = own.after_tick(house, joined, tuple(("part", link) for link in range(panels)), (), 8)
            self.assertEqual(apart[4], joined[4])

    def test_knocked_sounding_ringing(self):
        stand = put(FRESH, seen=((None, 3),), outs=(4, 5))
        self.told((1,), own.knocked, inn, stand)
        self.told((0, 1), own.sounding, inn, stand)
        self.told(((0, 4),), own.ringing, inn, stand)
        self.told((1,), own.sounding, inn, put(stand, mute=True))
        self.told((), own.ringing, inn, put(stand, mute=True))
        self.told((), own.ringing, inn, put(stand, faults=(short,)))
        self.told((), own.ringing, inn, put(stand, outs=(None, 5)))
        self.told((), own.knocked, inn, FRESH)
        three = put(own.fresh_stand(keep), seen=((0, None, 5), (1, None, None), (None, 3, 3)))
        self.told((), own.knocked, keep, three)
        self.told((0, 1, 2), own.knocked, keep, put(three, seen=((None, 0, None), (None, None, 0), (0, None, None))))
        self.told(((0, 1), (1, 4)), own.ringing, keep, put(three, outs=(None, 0, 2)))

    def test_aged(self):
        stand = put(
            FRESH, faults=(crack,), offs=((0, 6),), counted=(((0, 0), 1), ((0, 2), 2), ((0, 3), 9)), seen=((1, None),),
            lines=(("waits", 5, 12), ("barred", 1, 3)), asked=(0,), outs=(None, 3), mute=True,
        )
        told = (
            (crack,), ((0, 6),), (), (((0, 0), 8), ((0, 2), 7), ((0, 3), 0)), ((True, False),),
            (("waits", 3), ("barred", 0)), (0,), (False, True), True,
        )
        self.told(told, own.aged, inn, stand, 9)
        self.assertEqual(own.aged(inn, stand, 11)[3], (((0, 0), 8), ((0, 2), 8), ((0, 3), 2)))


class ForAll(unittest.TestCase):
    """Plays by a seed, tick by tick, by the words of [3]."""

    def test_ticks(self):
        dice = random.Random(11)
        for _ in range(700):
            play = some_play(dice, 20, 12)
            house, speech, deeds, many = play
            stand = own.fresh_stand(house)
            self.assertTrue(own.is_stand(house, stand))
            turns = {when for when, _ in deeds} | {mark for _, rows in speech for row in rows for mark in row} | {0}
            for tick, row in enumerate(oracle.course_of(play)):
                mine = tuple(deed for when, deed in deeds if when == tick)
                ahead, seen, lines = stand, stand[4], stand[5]
                for deed in mine:
                    if not own.can_do(house, ahead, deed):
                        self.assertEqual(own.after_deed(house, ahead, deed), ahead)
                    ahead = own.after_deed(house, ahead, deed)
                spots = own.speaking(speech, tick)
                self.assertEqual(spots, oracle.speaks(speech, tick))
                self.assertEqual(own.counting(house, ahead, spots), row["counted"])
                stand = own.after_tick(house, stand, mine, spots, tick)
                self.assertEqual(stand, row["stand"], (play, tick))
                self.assertEqual(own.after_tick(house, ahead, (), spots, tick), stand)
                self.assertTrue(own.is_stand(house, stand))
                self.assertEqual(own.knocked(house, stand), row["knocked"])
                self.assertEqual(own.sounding(house, stand), row["sounds"])
                self.assertEqual(own.ringing(house, stand), row["rings"])
                if tick not in turns:
                    # Nothing is knocked or seen, no LINE begins, but at a turn.
                    self.assertEqual(stand[4], seen)
                    begun = [one[0] == "idle" and other[0] != "idle" for one, other in zip(lines, stand[5])]
                    self.assertNotIn(True, begun)

    def test_stands_with_one_aged_go_on_alike(self):
        dice = random.Random(12)
        for _ in range(400):
            play = some_play(dice, 14)
            house, speech, deeds, many = play
            stand = own.fresh_stand(house)
            for row in oracle.course_of(play):
                stand = row["stand"]
            shift = dice.choice((1, 3, 50))
            later = self.shifted(stand, shift)
            self.assertEqual(own.aged(house, later, many + shift), own.aged(house, stand, many))
            for tick in range(many, many + 8):
                deeds = [own_deed for own_deed in [some_deed(dice, house)] if own_deed is not None]
                spots = [spot for spot, _ in speech if dice.randint(0, 2) == 0]
                stand = own.after_tick(house, stand, deeds, spots, tick)
                later = own.after_tick(house, later, deeds, spots, tick + shift)
                self.assertEqual(own.aged(house, later, tick + shift), own.aged(house, stand, tick))
                self.assertEqual(own.sounding(house, later), own.sounding(house, stand))
                self.assertEqual(own.ringing(house, later), own.ringing(house, stand))

    def shifted(self, stand, shift):
        """A STAND of the same AGED stand, so many ticks later: what is long ago may be longer ago."""
        faults, offs, parted, counted, seen, lines, asked, outs, mute = stand
        later = lambda tick: None if tick is None else tick + shift
        return (
            faults, offs, parted, tuple((spot, later(tick)) for spot, tick in counted),
            tuple(tuple(tick if tick is None else 0 for tick in row) for row in seen),
            tuple((state, later(begin) if state == "waits" else begin, later(end) if state == "waits" else end)
                  for state, begin, end in lines),
            asked, tuple(tick if tick is None else 1 for tick in outs), mute,
        )

    def test_deeds_by_a_seed_are_deeds(self):
        dice = random.Random(13)
        for _ in range(300):
            deed = some_deed(dice, keep)
            self.assertTrue(deed is None or is_deed(keep, deed))
