"""Plays [8]."""

import itertools
import random
import unittest

from secondknock import plays as own
from secondknock import ticks
from secondknock.errors import CanNot, NoGap, NoLine, NoPanel, NoSpot, NoTick, TooMany, Unfit
from secondknock.houses import is_play
from tests import oracle
from tests.samples import bare, barred, crack, inn, keep, loft, short, some_deed, some_play
from tests.styles import StyledCase

TOLD = (((0, 0), ((5, None),)), ((0, 2), ((1, None),)), ((0, 6), ((2, None),)))
RUN = (inn, TOLD, (), 8)
FIRE = (((0, 0), ((0, None),)), ((1, 0), ((0, None),)))
SPEAK, OTHER = ("speak", (0, 0)), ("speak", (1, 0))
# What is not there, and the error that tells of it.
GONE = (
    (NoSpot((0, 1)), ("off", (0, 1))), (NoSpot((2, 0)), ("on", (2, 0))), (NoLine(2), ("more", 2)),
    (NoGap((0, 8)), ("harm", ("short", (0, 8)))), (NoGap((1, 3)), ("heal", ("short", (1, 3)))),
    (NoPanel(2), ("part", 2)), (NoPanel(2), ("join", 2)),
)


class Going(StyledCase):
    def test_stands(self):
        told = own.stands(RUN)
        self.assertEqual(told, tuple(row["stand"] for row in oracle.course_of(RUN)))
        self.told(told, own.stands, RUN)
        self.told(told[-1], own.end_stand, RUN)
        self.told((), own.stands, (inn, TOLD, (), 0))
        self.told(ticks.fresh_stand(inn), own.end_stand, (inn, TOLD, ((0, ("quiet",)),), 0))
        self.told(ticks.fresh_stand(bare), own.end_stand, (bare, (), (), 3))

    def test_stands_on(self):
        deeds = ((1, ("off", (0, 2))), (4, ("quiet",)), (6, ("back",)), (9, ("sound",)))
        whole = own.stands((inn, TOLD, deeds, 8))
        self.told(whole[3:], own.stands_on, inn, whole[2], TOLD, deeds, 3, 5)
        self.told((), own.stands_on, inn, whole[2], TOLD, deeds, 3, 0)
        self.told(whole, own.stands_on, inn, ticks.fresh_stand(inn), TOLD, deeds, 0, 8)
        # DEEDS told for other ticks are left out.
        self.told(own.stands_on(inn, whole[2], TOLD, (), 3, 1), own.stands_on, inn, whole[2], TOLD, deeds, 3, 1)

    def test_first_ticks(self):
        self.told((1, 2), own.knock_ticks, RUN)
        self.told((4, 4), own.on_ticks, RUN)
        self.told((1, None), own.knock_ticks, (inn, TOLD, (), 2))
        self.told((None, None), own.on_ticks, (inn, TOLD, (), 4))
        self.told((None, None), own.knock_ticks, (inn, TOLD, (), 0))
        self.told((), own.knock_ticks, (bare, (), (), 5))
        self.told((), own.on_ticks, (bare, (), (), 5))
        # The first tick counts also if it is set back later.
        self.told((4, 4), own.on_ticks, (inn, TOLD, ((5, ("back",)),), 8))
        self.told((1, 2), own.knock_ticks, (inn, TOLD, ((5, ("back",)),), 8))

    def test_sounded_and_rung(self):
        quiet = (inn, TOLD, ((5, ("quiet",)), (7, ("sound",))), 8)
        for tick, outs in ((3, ()), (4, (0, 1)), (5, (1,)), (6, (1,)), (7, (0, 1))):
            self.told(outs, own.sounded, quiet, tick)
            self.told(((0, 4),) if 0 in outs else (), own.rung, quiet, tick)
        cut = (inn, TOLD, ((5, ("harm", short)),), 8)
        self.told((0, 1), own.sounded, cut, 5)
        self.told((), own.rung, cut, 5)

    def test_passed_over(self):
        deeds = (
            (0, ("on", (0, 2))), (0, ("off", (0, 2))), (0, ("off", (0, 2))), (1, ("more", 0)), (2, ("harm", crack)),
            (2, ("harm", ("short", (0, 3)))), (3, ("heal", short)), (3, ("quiet",)), (3, ("quiet",)), (8, ("on", (0, 0))),
        )
        self.told((0, 2, 3, 5, 6), own.passed_over, (inn, TOLD, deeds, 8))
        self.told((0, 2, 3, 5, 6, 9), own.passed_over, (inn, TOLD, deeds, 9))
        self.told((), own.passed_over, (inn, TOLD, deeds, 0))

    def test_plain_play(self):
        deeds = ((0, ("harm", short)), (2, ("quiet",)), (3, ("heal", short)), (5, ("off", (0, 6))), (9, ("back",)))
        told = (
            inn, (((0, 0), ((5, None),)), ((0, 2), ((3, None),)), ((0, 6), ((2, 5),))), ((2, ("quiet",)), (9, ("back",))), 8,
        )
        self.told(told, own.plain_play, (inn, TOLD, deeds, 8))
        self.told((inn, (), (), 0), own.plain_play, (inn, TOLD, (), 0))
        self.told((inn, (((0, 2), ((1, None),)),), (), 2), own.plain_play, (inn, TOLD, (), 2))
        ended = (((0, 0), ((0, 2), (3, 4), (6, 9))),)
        self.told((inn, (((0, 0), ((0, 2), (3, 4), (6, None))),), (), 8), own.plain_play, (inn, ended, (), 8))

    def test_errors_of_deeds_come_first(self):
        for error, deed in GONE:
            deeds = ((0, ("back",)), (1, deed), (2, ("part", 77)))
            for play in ((loft, FIRE, deeds, 3), (loft, FIRE, deeds, 0)):
                for function in (
                    own.stands, own.end_stand, own.knock_ticks, own.on_ticks, own.passed_over, own.plain_play, own.turns,
                    own.cut_pauses,
                ):
                    self.raises(error, function, play)
                self.raises(error, own.sounded, play, 99)
                self.raises(error, own.rung, play, 99)
                self.raises(error, own.drawn_out, play, 99, 1)
            self.raises(error, own.stands_on, loft, ticks.fresh_stand(loft), FIRE, deeds, 9, 1)

    def test_no_tick(self):
        for tick in (8, -1, 99):
            self.raises(NoTick(tick), own.sounded, RUN, tick)
            self.raises(NoTick(tick), own.rung, RUN, tick)
            self.raises(NoTick(tick), own.drawn_out, RUN, tick, 1)
        self.raises(NoTick(0), own.sounded, (inn, TOLD, (), 0), 0)


class Pauses(StyledCase):
    def test_turns(self):
        self.told((0, 1, 2, 5), own.turns, RUN)
        self.told((0, 1), own.turns, (inn, TOLD, (), 2))
        self.told((), own.turns, (inn, TOLD, ((0, ("back",)),), 0))
        self.told((0,), own.turns, (bare, (), (), 4))
        speech = (((0, 0), ((2, 4), (6, 9))),)
        self.told((0, 2, 3, 4, 6), own.turns, (inn, speech, ((3, ("back",)), (3, ("quiet",)), (12, ("back",))), 8))

    def test_cut_pauses(self):
        # patience of loft is 2: pauses of 3 ticks stay as they are, of 4 are cut.
        for first, cut in ((2, 2), (3, 3), (4, 3), (90, 3)):
            play = (loft, (((0, 0), ((first, first + 1),)),), (), first + 1 + first)
            told = (loft, (((0, 0), ((cut, cut + 1),)),), (), 2 * cut + 1)
            self.told(told, own.cut_pauses, play)
        self.told((inn, (), (), 0), own.cut_pauses, (inn, TOLD, ((3, ("back",)),), 0))
        self.told((bare, (), (), 1), own.cut_pauses, (bare, (), (), 9))

    def test_what_is_told_from_many_on_is_left_out(self):
        speech = (((0, 0), ((1, 20), (22, 30))), ((0, 2), ((20, None),)), ((0, 3), ((2, 25),)))
        deeds = ((0, ("quiet",)), (19, ("back",)), (20, ("sound",)))
        told = (((0, 0), ((1, None),)), ((0, 3), ((2, None),)))
        self.told((loft, told, ((0, ("quiet",)), (5, ("back",))), 6), own.cut_pauses, (loft, speech, deeds, 20))

    def test_drawn_out(self):
        play = (loft, (((0, 0), ((1, 5), (9, None))), ((1, 0), ((0, 9),))), ((5, ("back",)), (9, ("quiet",))), 12)
        told = (loft, (((0, 0), ((1, 9), (13, None))), ((1, 0), ((0, 13),))), ((9, ("back",)), (13, ("quiet",))), 16)
        self.told(told, own.drawn_out, play, 5, 4)
        told = (loft, (((0, 0), ((1, 5), (16, None))), ((1, 0), ((0, 16),))), ((5, ("back",)), (16, ("quiet",))), 19)
        self.told(told, own.drawn_out, play, 9, 7)
        self.told(play, own.drawn_out, play, 9, 0)

    def test_can_not_be_drawn_out(self):
        for length in (1, 2, 3, 4):
            play = (loft, (((0, 0), ((length, None),)),), (), 9)
            if length <= 2:
                self.raises(CanNot(), own.drawn_out, play, length, 1)
            else:
                self.assertEqual(own.drawn_out(play, length, 1)[3], 10)
            self.raises(CanNot(), own.drawn_out, play, 0, 1)
            self.raises(CanNot(), own.drawn_out, play, length + 1, 1)


class Acts(StyledCase):
    def test_suits(self):
        stop = ("stop", (0, 0))
        for acts, pauses, told in (
            ((SPEAK,), (0,), True), ((stop,), (0,), False), ((SPEAK, SPEAK), (0, 2), False), ((SPEAK, stop), (0, 0), False),
            ((SPEAK, stop), (0, 1), True), ((SPEAK, stop, SPEAK), (0, 1, 0), False), ((SPEAK, OTHER), (0, 0), True),
            ((SPEAK, stop, SPEAK), (0, 1, 1), True), ((SPEAK, stop, SPEAK, stop), (0, 1, 1, 1), True),
            ((SPEAK, stop, OTHER, stop), (0, 3, 1, 1), False), ((("back",), ("back",)), (0, 0), True),
            ((SPEAK, OTHER, stop, ("stop", (1, 0))), (0, 1, 0, 0), False), ((SPEAK, OTHER, stop), (0, 1, 0), True),
            ((SPEAK, ("stop", (1, 0))), (0, 9), False),
        ):
            self.told(told, own.suits, loft, acts, pauses)
            if told:
                self.assertTrue(is_play(own.play_of(loft, acts, pauses)))
            else:
                self.raises(Unfit(), own.play_of, loft, acts, pauses)
        for pauses in ((0,), (0, 1, 1), (1, 0), ()):
            self.told(False, own.suits, loft, (SPEAK, OTHER), pauses)

    def test_play_of(self):
        acts = (OTHER, ("quiet",), SPEAK, ("stop", (1, 0)))
        told = (loft, (((0, 0), ((4, None),)), ((1, 0), ((0, 6),))), ((4, ("quiet",)),), 9)
        self.told(told, own.play_of, loft, acts, (0, 4, 0, 2))
        self.told((loft, (), ((0, ("back",)),), 3), own.play_of, loft, (("back",),), (0,))
        stop = ("stop", (0, 0))
        told = (loft, (((0, 0), ((0, 1), (3, None))),), (), 6)
        self.told(told, own.play_of, loft, (SPEAK, stop, SPEAK), (0, 1, 2))
        told = (loft, (((0, 0), ((0, 1), (3, 7))),), (), 10)
        self.told(told, own.play_of, loft, (SPEAK, stop, SPEAK, stop), (0, 1, 2, 4))

    def test_all_pauses(self):
        self.told([(0,)], own.all_pauses, loft, (SPEAK,))
        self.told([(0, 0), (0, 1), (0, 2), (0, 3)], own.all_pauses, loft, (SPEAK, OTHER))
        self.told([(0, 1), (0, 2), (0, 3)], own.all_pauses, loft, (SPEAK, ("stop", (0, 0))))
        self.told([], own.all_pauses, loft, (SPEAK, SPEAK))
        self.told([], own.all_pauses, loft, (("stop", (0, 0)),))
        told = [(0,) + row for row in itertools.product(range(4), repeat=3)]
        self.told(told, own.all_pauses, loft, (SPEAK, OTHER, ("back",), ("quiet",)))

    def test_ends_of(self):
        self.told([((), (0,))], own.ends_of, loft, (SPEAK,))
        self.told([((1,), (0,))], own.ends_of, loft, (OTHER,))
        self.told([((0,), (0, 0)), ((0, 1), (0, 3))], own.ends_of, loft, (OTHER, SPEAK))
        self.told([((0,), (0, 0))], own.ends_of, loft, (SPEAK, OTHER))
        self.told([], own.ends_of, loft, (("stop", (0, 0)),))
        # Quiet from ahead of its tick on the bell never sounds; quiet ahead of the knock is of no use.
        self.told([((), (0, 1)), ((0,), (0, 0))], own.ends_of, barred, (SPEAK, ("quiet",)))

    def test_too_many(self):
        acts = (("back",),) * 4
        # patience and 2, to the power of three: 7 is 343, 8 is 512.
        self.assertEqual(len(own.all_pauses(self.house_of(5), acts)), 343)
        for function in (own.all_pauses, own.ends_of):
            self.raises(TooMany(), function, self.house_of(6), acts)
            self.raises(TooMany(), function, inn, acts)
        self.assertEqual(len(own.all_pauses(self.house_of(18), acts[:3])), 400)
        self.raises(TooMany(), own.all_pauses, self.house_of(19), acts[:3])
        self.assertEqual(len(own.all_pauses(self.house_of(40), acts[:2])), 42)
        self.assertEqual(own.all_pauses(self.house_of(40), acts[:1]), [(0,)])

    def house_of(self, patience):
        wait = min(20, patience)
        return (inn[0], inn[1], ((0, "any", (0,), wait, (), 0, patience - wait, 0),), inn[3], 1)

    def test_errors_of_acts_come_first(self):
        for error, deed in GONE + ((NoSpot((0, 1)), ("speak", (0, 1))), (NoSpot((0, 9)), ("stop", (0, 9)))):
            acts = (SPEAK, deed, ("more", 77), ("speak", (7, 7)))
            self.raises(error, own.suits, loft, acts, (0, 1, 1, 1))
            self.raises(error, own.play_of, loft, acts, (0, 1, 1, 1))
            self.raises(error, own.all_pauses, loft, acts)
            self.raises(error, own.ends_of, loft, acts)
        self.raises(NoSpot((0, 1)), own.all_pauses, inn, (("back",), ("stop", (0, 1)), ("back",), ("back",)))


class ForAll(unittest.TestCase):
    """Plays by a seed, and all PAUSES of a few ACTS, by the words of [3]."""

    def test_looks(self):
        dice = random.Random(21)
        for _ in range(500):
            play = some_play(dice)
            house, speech, deeds, many = play
            rows = oracle.course_of(play)
            told = own.stands(play)
            self.assertEqual(told, tuple(row["stand"] for row in rows))
            self.assertEqual(own.end_stand(play), told[-1] if rows else ticks.fresh_stand(house))
            self.assertEqual(own.passed_over(play), tuple(sorted(at for row in rows for at in row["over"])))
            for name, count, function in (("knocked", len(house[1]), own.knock_ticks), ("on", len(house[3]), own.on_ticks)):
                first = tuple(
                    min((tick for tick, row in enumerate(rows) if number in row[name]), default=None)
                    for number in range(count)
                )
                self.assertEqual(function(play), first)
            for tick in range(0, many, 3):
                self.assertEqual(own.sounded(play, tick), rows[tick]["sounds"])
                self.assertEqual(own.rung(play, tick), rows[tick]["rings"])
                on = own.stands_on(house, told[tick], speech, deeds, tick + 1, many - tick - 1)
                self.assertEqual(on, told[tick + 1:])

    def test_plain_play_has_the_same_stands(self):
        dice = random.Random(22)
        for _ in range(400):
            play = some_play(dice)
            rows, plain = oracle.course_of(play), own.plain_play(play)
            self.assertTrue(is_play(plain))
            self.assertFalse([deed for _, deed in plain[2] if deed[0] in ("off", "on", "harm", "heal")])
            for tick, (row, stand) in enumerate(zip(rows, own.stands(plain))):
                self.assertEqual(stand[2:], row["stand"][2:])
                self.assertEqual(oracle.speaks(plain[1], tick), row["counted"])
            for _, stretches in plain[1]:
                self.assertTrue(all(end is None or end < play[3] for _, end in stretches))

    def turn_rows(self, play):
        """What is there at the turns: AGED stands and what sounds."""
        rows = oracle.course_of(play)
        return [
            (ticks.aged(play[0], rows[tick]["stand"], tick), rows[tick]["sounds"], rows[tick]["rings"])
            for tick in own.turns(play)
        ]

    def test_long_pauses_can_be_cut_and_drawn_out(self):
        dice = random.Random(23)
        cuts = draws = 0
        for _ in range(500):
            play = some_play(dice, 40, 4)
            cut = own.cut_pauses(play)
            self.assertTrue(is_play(cut))
            self.assertEqual(len(own.turns(cut)), len(own.turns(play)))
            self.assertEqual(self.turn_rows(cut), self.turn_rows(play))
            self.assertEqual(own.cut_pauses(cut), cut)
            cuts += cut[3] < play[3]
            longest = ticks.patience(play[0]) + 1
            marks = own.turns(cut) + (cut[3],)
            self.assertTrue(all(other - one <= longest for one, other in zip(marks, marks[1:])))
            marks = own.turns(play)
            for one, tick in zip(marks, marks[1:]):
                if tick - one < longest:
                    self.assertRaises(CanNot, own.drawn_out, play, tick, 2)
                    continue
                drawn = own.drawn_out(play, tick, 3)
                self.assertTrue(is_play(drawn))
                self.assertEqual(self.turn_rows(drawn), self.turn_rows(play))
                self.assertEqual(own.cut_pauses(drawn), cut)
                draws += 1
        self.assertGreater(min(cuts, draws), 100)

    def fits_by_words(self, acts, pauses):
        """The SPEECH of ACTS, or None, by marking each tick of each SPOT."""
        begun, told = {}, {}
        for number, act in enumerate(acts):
            tick = sum(pauses[:number + 1])
            if act[0] == "speak":
                if act[1] in begun or any(end >= tick for _, end in told.get(act[1], [])):
                    return None
                begun[act[1]] = tick
            elif act[0] == "stop":
                if act[1] not in begun or begun[act[1]] >= tick:
                    return None
                told.setdefault(act[1], []).append((begun.pop(act[1]), tick))
        for spot, tick in begun.items():
            told.setdefault(spot, []).append((tick, None))
        return tuple((spot, tuple(told[spot])) for spot in sorted(told))

    def some_acts(self, dice, house, most):
        rings = house[0]
        spots = [(n, at) for n, ring in enumerate(rings) for at, piece in enumerate(ring[1]) if piece[0] == "feel"]
        acts = []
        while len(acts) < most:
            act = some_deed(dice, house)
            if spots and dice.randint(0, 2):
                act = (dice.choice(("speak", "speak", "stop")), dice.choice(spots[:2]))
            if act is not None:
                acts.append(act)
        return tuple(acts)

    def test_acts_and_all_their_pauses(self):
        dice = random.Random(24)
        for _ in range(150):
            house = dice.choice((loft, loft, barred, inn))
            acts = self.some_acts(dice, house, dice.randint(1, 3 if house == loft else 2))
            longest = ticks.patience(house) + 1
            rows = [(0,) + row for row in itertools.product(range(longest + 1), repeat=len(acts) - 1)]
            fit = [row for row in rows if self.fits_by_words(acts, row) is not None]
            self.assertEqual(own.all_pauses(house, acts), fit)
            ends = {}
            for row in rows:
                self.assertEqual(own.suits(house, acts, row), row in fit)
            for row in sorted(fit, key=lambda row: (sum(row), row)):
                deeds = [(sum(row[:number + 1]), act) for number, act in enumerate(acts) if act[0] not in ("speak", "stop")]
                play = (house, self.fits_by_words(acts, row), tuple(deeds), sum(row) + longest)
                self.assertEqual(own.play_of(house, acts, row), play)
                outs = tuple(sorted({out for told in oracle.course_of(play) for out in told["sounds"]}))
                ends.setdefault(outs, row)
            told = own.ends_of(house, acts)
            self.assertEqual(told, sorted(ends.items()))
            # With longer PAUSES nothing else sounds.
            wide = [(0,) + row for row in itertools.product((0, 1, longest, longest + 1, longest + 5), repeat=len(acts) - 1)]
            for row in wide:
                if own.suits(house, acts, row):
                    rows = oracle.course_of(own.play_of(house, acts, row))
                    self.assertIn(tuple(sorted({out for told in rows for out in told["sounds"]})), ends)


class Greatest(unittest.TestCase):
    def test_two_hundred_ticks_and_thirty_deeds(self):
        dice = random.Random(25)
        spots = ((0, 0), (0, 3), (1, 0), (1, 3), (3, 0), (3, 1))
        speech = tuple((spot, ((at, at + 60), (at + 90, None))) for at, spot in enumerate(spots))
        deeds = [some_deed(dice, keep) for _ in range(30)]
        play = (keep, speech, tuple(zip(sorted(dice.randrange(200) for _ in deeds), deeds)), 200)
        self.assertTrue(is_play(play))
        self.assertEqual(own.stands(play), tuple(row["stand"] for row in oracle.course_of(play)))
        self.assertEqual(own.cut_pauses(own.cut_pauses(play)), own.cut_pauses(play))
