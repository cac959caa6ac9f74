"""Quiet, set back, asked [16]."""

import itertools
import random
import unittest

from secondknock import silence as own
from secondknock.errors import CanNot, NoLine, NoOut, NoTick, Unfit
from secondknock.houses import is_play
from tests import oracle
from tests.samples import bare, barred, crack, crowd, inn, loft, risen, short, some_begins, some_house, some_play, tower
from tests.styles import StyledCase

A, B, C, D = (0, 0), (0, 2), (0, 3), (0, 6)
ON = ((A, ((5, None),)), (B, ((1, None),)), (D, ((2, None),)))
CALM, TWICE = (inn, ON, (), 10), (inn, ON, ((3, ("quiet",)), (6, ("back",))), 10)
NONE = (inn, ON, ((0, ("back",)), (3, ("back",))), 0)
EARLY = ((A, 5), (B, 1), (D, 2))
# Both LINES to one OUT; LINES that may be asked for good and again.
PAIR = inn[:2] + (((0, "any", (0,), 3, (), 0, 4, 1), (0, "all", (0, 1), 2, (), 0, 2, 0)),) + inn[3:]


class Spans(StyledCase):
    def test_new_knocks(self):
        self.told([(1, (0,)), (2, (1,))], own.new_knocks, CALM)
        self.told([(1, (0,)), (2, (1,)), (6, (0, 1))], own.new_knocks, TWICE)
        self.told([], own.new_knocks, NONE)
        self.told([], own.new_knocks, (inn, (), ((1, ("back",)),), 9))
        # Seen by another panel or not, it is knocked newly once.
        parted = ((0, ("part", 0)), (0, ("part", 1)), (3, ("join", 0)))
        self.told([(1, (0, 1))], own.new_knocks, (loft, ((A, ((1, None),)), ((1, 0), ((1, None),))), parted, 9))

    def test_mute_spans(self):
        self.told([], own.mute_spans, CALM)
        self.told([(3, 6)], own.mute_spans, TWICE)
        self.told([], own.mute_spans, NONE)
        # Quiet and a new knock at one tick; quiet to the end; quiet, sound and quiet at one tick.
        self.told([(3, 10)], own.mute_spans, (inn, ON, ((1, ("quiet",)), (3, ("quiet",))), 10))
        self.told([(0, 1), (4, 7), (8, 9)], own.mute_spans, (inn, ON, (
            (0, ("quiet",)), (4, ("quiet",)), (7, ("sound",)), (8, ("sound",)), (8, ("quiet",)), (9, ("quiet",)), (9, ("back",)),
        ), 10))

    def test_on_spans(self):
        self.told([(4, 6), (9, 10)], own.on_spans, TWICE, 0)
        self.told([(4, 6), (8, 10)], own.on_spans, TWICE, 1)
        self.told([(4, 10)], own.on_spans, CALM, 0)
        self.told([], own.on_spans, NONE, 0)
        # On again at the tick of the back: the span does not go over it.
        quick = inn[:2] + (((0, "any", (0,), 0, (), 0, 4, 0),),) + inn[3:]
        deeds = ((0, ("back",)), (3, ("back",)), (3, ("back",)), (5, ("back",)))
        self.told([(1, 3), (3, 5), (5, 7)], own.on_spans, (quick, ON, deeds, 7), 0)
        self.told([1, 3, 5], own.comes_on, (quick, ON, deeds[1:], 7), 0)

    def test_holders(self):
        self.told((1,), own.holders, CALM, 1, 4)
        self.told((), own.holders, CALM, 1, 3)
        self.told((), own.holders, TWICE, 0, 6)
        # An OUT held by two LINES.
        self.told((0, 1), own.holders, (PAIR, ON, (), 10), 0, 4)
        self.told((), own.holders, (PAIR, ON, (), 10), 1, 4)

    def test_comes_on(self):
        self.told([4, 8], own.comes_on, TWICE, 1)
        self.told([4, 9], own.comes_on, TWICE, 0)
        self.told([4], own.comes_on, CALM, 0)
        self.told([4, None], own.comes_on, TWICE[:3] + (8,), 0)
        self.told([], own.comes_on, NONE, 0)

    def test_fields(self):
        self.told([(0, 6), (6, 10)], own.fields, TWICE)
        self.told([(0, 10)], own.fields, CALM)
        # A PLAY of no tick; back at tick 0; two backs at one tick; backs told for no tick of it.
        self.told([], own.fields, NONE)
        self.told([(0, 3), (3, 9)], own.fields, NONE[:3] + (9,))
        deeds = ((2, ("back",)), (2, ("quiet",)), (2, ("back",)), (9, ("back",)), (12, ("back",)))
        self.told([(0, 2), (2, 9)], own.fields, (inn, ON, deeds, 9))


class Quiets(StyledCase):
    def test_must_sound(self):
        self.told((), own.must_sound, CALM, 0)
        # A door: all at which it is on.
        self.told((4, 5, 6, 7, 8, 9), own.must_sound, CALM, 1)
        self.told((), own.must_sound, NONE, 1)
        self.told((3,), own.must_sound, self.again(), 0)

    def again(self):
        return (loft, ((A, ((0, None),)), ((1, 0), ((3, None),))), (), 9)

    def test_quiet_ticks(self):
        self.told((4,), own.quiet_ticks, CALM, 0)
        self.told((9,), own.quiet_ticks, TWICE, 0)
        # Mute already; made loud again; set back.
        self.told((), own.quiet_ticks, (inn, ON, ((3, ("quiet",)),), 10), 0)
        self.told((5,), own.quiet_ticks, (inn, ON, ((3, ("quiet",)), (5, ("sound",))), 10), 0)
        self.told((4, 6), own.quiet_ticks, (inn, ON, ((6, ("sound",)),), 10), 0)
        self.told((4, 9), own.quiet_ticks, (inn, ON, ((6, ("back",)),), 10), 0)
        self.told((), own.quiet_ticks, NONE, 0)
        self.told((), own.quiet_ticks, (inn, (), (), 9), 1)
        self.raises(CanNot(), own.quiet_ticks, self.again(), 0)
        self.raises(CanNot(), own.quiet_ticks, CALM, 1)


class Fields(StyledCase):
    def test_field_play(self):
        self.told(CALM, own.field_play, CALM, 0)
        self.told((inn, ON, ((3, ("quiet",)),), 6), own.field_play, TWICE, 0)
        speech = ((A, ((6, None),)), (B, ((6, None),)), (D, ((6, None),)))
        self.told((inn, speech, (), 10), own.field_play, TWICE, 1)

    def test_what_ends_is_left_out(self):
        speech = ((A, ((0, 4), (5, 7), (20, 30))), (B, ((1, 4),)), (C, ((2, 5),)))
        told = ((A, ((5, 7), (20, 30))), (C, ((4, 5),)))
        self.told((inn, told, (), 9), own.field_play, (inn, speech, ((4, ("back",)),), 9), 1)

    def test_what_is_so_at_the_last_back(self):
        deeds = (
            (0, ("off", D)), (0, ("part", 1)), (1, ("harm", short)), (1, ("harm", ("break", (0, 1)))), (2, ("off", B)),
            (4, ("heal", short)), (4, ("harm", crack)), (4, ("back",)), (4, ("quiet",)), (4, ("on", D)), (4, ("back",)),
            (4, ("on", B)), (4, ("quiet",)), (6, ("part", 0)), (8, ("back",)),
        )
        house = inn[:4] + (2,)
        told = (
            (4, ("harm", ("break", (0, 1)))), (4, ("harm", crack)), (4, ("off", B)), (4, ("part", 1)),
            (4, ("on", B)), (4, ("quiet",)), (6, ("part", 0)),
        )
        begun = tuple((spot, ((4, None),)) for spot in (B, D))
        self.told((house, begun, told, 8), own.field_play, (house, oracle.speech_of(((B, 1), (D, 2))), deeds, 20), 1)

    def test_asked_for_good(self):
        deeds = ((2, ("more", 0)), (5, ("more", 1)), (7, ("back",)), (9, ("more", 0)))
        play = (PAIR, oracle.speech_of(((B, 1), (C, 3))), deeds, 12)
        lines = (PAIR[2][0], PAIR[2][1][:6] + (0, 0))
        self.told((PAIR[:2] + (lines,) + PAIR[3:], oracle.speech_of(((B, 7), (C, 7))), ((9, ("more", 0)),), 12),
                  own.field_play, play, 1)
        # Asked behind the back, it is not asked by then.
        self.assertEqual(own.field_play(play, 0)[0], PAIR)

    def test_back_at_tick_0(self):
        deeds = ((0, ("off", D)), (0, ("back",)), (0, ("quiet",)))
        self.told((inn, ON, ((0, ("off", D)), (0, ("quiet",))), 5), own.field_play, (inn, ON, deeds, 5), 0)


class Late(StyledCase):
    def test_latest_first(self):
        for backs, asks, told in ((0, 0, 4), (2, 0, 10), (1, 1, 11), (1, 3, 11), (0, 1, 8), (6, 6, 4 + 18 + 4)):
            self.told(told, own.latest_first, inn, EARLY, 0, backs, asks)
        self.told(4, own.latest_first, inn, EARLY, 1, 0, 0)
        # more 0 of LINE 1.
        self.told(8, own.latest_first, inn, EARLY, 1, 2, 3)
        # Asked again behind each back.
        for backs, asks, told in ((0, 3, 8), (1, 3, 4 + 3 + 8), (2, 2, 4 + 6 + 8), (1, 0, 7)):
            self.told(told, own.latest_first, PAIR, EARLY, 0, backs, asks)
        self.told(None, own.latest_first, inn, EARLY[:1], 1, 3, 3)
        self.told(None, own.latest_first, inn, (), 0, 3, 3)
        # Without a wait nothing can be done.
        quick = inn[:2] + (((0, "any", (0,), 0, (), 0, 9, 1),),) + inn[3:]
        self.told(1, own.latest_first, quick, EARLY, 0, 6, 6)
        self.told((), own.late_deeds, quick, EARLY, 0, 0, 0)
        # FORMS too great to be put together do not matter.
        self.told(3, own.latest_first, crowd, tuple(((0, at), 2) for at in range(8)), 0, 0, 0)

    def test_late_deeds(self):
        for house, line in ((inn, 0), (inn, 1), (PAIR, 0), (PAIR, 1)):
            for backs, asks in ((0, 0), (2, 0), (0, 2), (1, 1), (3, 2), (6, 6)):
                told = own.late_deeds(house, EARLY, line, backs, asks)
                self.told(told, own.late_deeds, house, EARLY, line, backs, asks)
                self.told(True, own.are_late_deeds, house, EARLY, line, backs, asks, told)
                latest = own.latest_first(house, EARLY, line, backs, asks)
                states = [
                    row["stand"][5][line][0] for row in oracle.course_of((house, oracle.speech_of(EARLY), told, latest + 2))
                ]
                self.assertEqual(states.index("on"), latest)
        self.raises(CanNot(), own.late_deeds, inn, (), 0, 1, 1)
        self.raises(CanNot(), own.late_deeds, inn, EARLY[:1], 1, 0, 0)

    def test_are_late_deeds(self):
        good = [((4, ("more", 0)), (8, ("back",))), ((4, ("back",)), (7, ("more", 0))), ((4, ("back",)), (5, ("more", 0)))]
        bad = [
            (), ((4, ("back",)),), ((8, ("more", 0)), (4, ("back",))), ((4, ("more", 1)), (8, ("back",))),
            ((4, ("more", 0)), (8, ("back",)), (8, ("quiet",))), ((4, ("more", 0)), (8, ("back",)), (11, ("back",))),
            ((4, ("more", 0)), (4, ("more", 0)), (8, ("back",))), ((4, ("more", 0)), (7, ("back",))),
            ((4, ("more", 0)), (9, ("back",))), ((1, ("more", 0)), (4, ("back",))), [(4, ("more", 0)), (8, ("back",))],
            ([4, ("more", 0)], (8, ("back",))), ((4, ["more", 0]), (8, ("back",))), ((4, ("more", False)), (8, ("back",))),
            ((4, ("more",)), (8, ("back",))), ((True, ("back",)), (4, ("more", 0))), ((4, "back"), (7, ("more", 0))),
            ((-1, ("back",)), (4, ("more", 0))), ((4, None), (8, None)), ((4, ("more", 0), 0), (8, ("back",))),
        ]
        self.things(good, bad, own.are_late_deeds, inn, EARLY, 0, 1, 1)
        # Fewer are enough where more do not help; told too late they do nothing.
        self.things([()], [((4, ("back",)),)], own.are_late_deeds, inn, EARLY, 0, 0, 0)
        self.things([((4, ("back",)), (7, ("back",)))], [((4, ("back",)), (10 ** 30, ("back",)))],
                    own.are_late_deeds, inn, EARLY, 0, 2, 0)
        quick = inn[:2] + (((0, "any", (0,), 0, (), 0, 9, 1),),) + inn[3:]
        self.things([(), ((1, ("back",)), (10 ** 30, ("back",)))], [((2, ("more", 0)),), ((1, ("back",)),) * 4],
                    own.are_late_deeds, quick, EARLY, 0, 3, 0)
        self.things([], [(), ((4, ("back",)),)], own.are_late_deeds, inn, (), 0, 1, 1)

    def test_outs(self):
        self.told(10, own.out_latest, inn, EARLY, 0, 2)
        self.told((4, 7), own.out_backs, inn, EARLY, 0, 2)
        self.told(4, own.out_latest, inn, EARLY, 0, 0)
        self.told((), own.out_backs, inn, EARLY, 0, 0)
        self.told(None, own.out_latest, inn, (), 0, 2)
        self.told((), own.out_backs, inn, (), 0, 2)
        self.told(None, own.out_latest, inn, EARLY[:1], 1, 2)
        # The LINE with the shorter wait has it on anew.
        self.told(8, own.out_latest, PAIR, EARLY, 0, 2)
        self.told((4, 6), own.out_backs, PAIR, EARLY, 0, 2)
        # One without a wait, that begins late: a back more is of no use.
        late = inn[:2] + (((0, "any", (0,), 3, (), 0, 0, 0), (0, "all", (0, 1), 0, (), 0, 0, 0)),) + inn[3:]
        begins = ((A, 1), (B, 9), (C, 9))
        self.told(9, own.out_latest, late, begins, 0, 6)
        self.told((4, 7), own.out_backs, late, begins, 0, 6)
        # An OUT without LINES.
        none = inn[:2] + ((),) + inn[3:]
        self.told(None, own.out_latest, none, EARLY, 1, 3)


class Errors(StyledCase):
    def test_no_out_and_no_tick(self):
        for out in (-1, 2, 9):
            self.raises(NoOut(out), own.on_spans, CALM, out)
            self.raises(NoOut(out), own.holders, CALM, out, 99)
            self.raises(NoOut(out), own.comes_on, CALM, out)
            self.raises(NoOut(out), own.must_sound, CALM, out)
            self.raises(NoOut(out), own.quiet_ticks, CALM, out)
            self.raises(NoOut(out), own.out_latest, inn, (), out, 1)
            self.raises(NoOut(out), own.out_backs, inn, (), out, 1)
            self.raises(NoOut(out), own.on_spans, (inn, ON, ((1, ("more", 99)),), 10), out)
        for tick in (-1, 10, 99):
            self.raises(NoTick(tick), own.holders, CALM, 0, tick)
        self.raises(NoTick(0), own.holders, NONE, 0, 0)
        for number in (-1, 2, 9):
            self.raises(NoTick(number), own.field_play, TWICE, number)
        self.raises(NoTick(0), own.field_play, NONE, 0)

    def test_unfit_and_no_line(self):
        for house in (barred, loft, risen(loft), tower):
            self.raises(Unfit(), own.latest_first, house, EARLY, 99, 1, 1)
            self.raises(Unfit(), own.late_deeds, house, EARLY, 99, 1, 1)
            self.raises(Unfit(), own.are_late_deeds, house, EARLY, 99, 1, 1, ())
            self.raises(Unfit(), own.out_latest, house, EARLY, 99, 1)
            self.raises(Unfit(), own.out_backs, house, EARLY, 99, 1)
        for line in (-1, 2, 9):
            self.raises(NoLine(line), own.latest_first, inn, (), line, 1, 1)
            self.raises(NoLine(line), own.late_deeds, inn, (), line, 1, 1)
            self.raises(NoLine(line), own.are_late_deeds, inn, (), line, 1, 1, None)


def spans(ticks):
    found = []
    for tick in ticks:
        if found and found[-1][1] == tick:
            found[-1] = (found[-1][0], tick + 1)
        else:
            found.append((tick, tick + 1))
    return found


class ForAll(unittest.TestCase):
    """PLAYS by a seed, by the six steps of [3]."""

    def fields(self, play):
        begins = sorted({0} | {tick for tick, deed in play[2] if deed == ("back",)})
        begins = [tick for tick in begins if tick < play[3]]
        return list(zip(begins, begins[1:] + [play[3]]))

    def news(self, play):
        """For each tick the ZONES knocked newly: not so behind the tick ahead, or behind a set-back."""
        rows = oracle.course_of(play)
        backs = [tick for tick, deed in play[2] if deed == ("back",)]
        found = []
        for tick, row in enumerate(rows):
            ahead = rows[tick - 1]["knocked"] if tick and tick not in backs else ()
            found.append(tuple(zone for zone in row["knocked"] if zone not in ahead))
        return rows, found

    def test_spans(self):
        dice = random.Random(101)
        for _ in range(300):
            play = some_play(dice)
            rows, news = self.news(play)
            self.assertEqual(own.new_knocks(play), [(tick, zones) for tick, zones in enumerate(news) if zones])
            mute = [tick for tick, row in enumerate(rows) if row["stand"][8]]
            self.assertEqual(own.mute_spans(play), spans(mute))
            fields = self.fields(play)
            self.assertEqual(own.fields(play), fields)
            for out in range(len(play[0][3])):
                on = [tick for tick, row in enumerate(rows) if out in row["on"]]
                told = [span for a, b in fields for span in spans([tick for tick in on if a <= tick < b])]
                self.assertEqual(own.on_spans(play, out), told)
                first = [min((tick for tick in on if a <= tick < b), default=None) for a, b in fields]
                self.assertEqual(own.comes_on(play, out), first)
                for tick in range(0, play[3], 3):
                    lines = [
                        number for number, line in enumerate(play[0][2])
                        if line[5] == out and rows[tick]["stand"][5][number][0] == "on"
                    ]
                    self.assertEqual(own.holders(play, out, tick), tuple(lines))

    def with_quiets(self, play, ticks):
        """The PLAY with a quiet behind all DEEDS of each of these ticks."""
        deeds = []
        for tick in range(play[3]):
            deeds += [own_deed for own_deed in play[2] if own_deed[0] == tick]
            if tick in ticks:
                deeds.append((tick, ("quiet",)))
        return (play[0], play[1], tuple(deeds), play[3])

    def test_quiets(self):
        dice = random.Random(102)
        kinds = {"must": 0, "none": 0, "one": 0, "two": 0}
        while min(kinds.values()) < 3:
            play = some_play(dice, 7, 5)
            outs = range(len(play[0][3]))
            if not any("on" in row and row["on"] for row in oracle.course_of(play)):
                continue
            sounds = {}
            for ticks in oracle.all_subsets(range(play[3])):
                rows = oracle.course_of(self.with_quiets(play, ticks))
                sounds[ticks] = [{tick for tick, row in enumerate(rows) if out in row["sounds"]} for out in outs]
            for out in outs:
                sure = set.intersection(*[rows[out] for rows in sounds.values()])
                self.assertEqual(own.must_sound(play, out), tuple(sorted(sure)))
                silent = [ticks for ticks, rows in sounds.items() if not rows[out]]
                if sure:
                    self.assertEqual(silent, [])
                    self.assertRaises(CanNot, own.quiet_ticks, play, out)
                    kinds["must"] += 1
                    continue
                few = [ticks for ticks in silent if len(ticks) == min(map(len, silent))]
                told = own.quiet_ticks(play, out)
                self.assertEqual(told, max(few))
                for ticks in few:
                    self.assertTrue(all(one <= other for one, other in zip(ticks, told)))
                kinds[("none", "one", "two")[min(2, len(told))]] += 1

    def test_fields_go_as_fresh_plays(self):
        dice = random.Random(103)
        fields = 0
        for _ in range(500):
            play = some_play(dice, 16, 10)
            if not any(deed == ("back",) for _, deed in play[2]) and dice.randint(0, 3):
                continue
            rows = oracle.course_of(play)
            for number, (begin, end) in enumerate(self.fields(play)):
                fresh = own.field_play(play, number)
                self.assertTrue(is_play(fresh))
                self.assertEqual(fresh[3], end)
                self.assertTrue(all(begin <= tick < end and deed != ("back",) or (number == 0 and tick < end)
                                    for tick, deed in fresh[2]))
                told = oracle.course_of(fresh)
                for tick in range(begin, end):
                    one, other = rows[tick], told[tick]
                    # What is asked for good is told by more 0 alone.
                    self.assertEqual(other["stand"][:6] + other["stand"][7:], one["stand"][:6] + one["stand"][7:])
                    self.assertEqual((other["sounds"], other["rings"]), (one["sounds"], one["rings"]))
                fields += number > 0
        self.assertGreater(fields, 100)

    def houses(self, seed, many):
        dice = random.Random(seed)
        while many:
            house = risen(some_house(dice))
            if house[4] == 1 and house[2] and max(line[3] for line in house[2]) <= 3:
                many -= 1
                yield dice, house

    def deeds_of(self, words, many, last):
        """All DEEDS of at most so many of these words, to this tick."""
        for count in range(many + 1):
            for told in itertools.product(words, repeat=count):
                for ticks in itertools.combinations_with_replacement(range(last), count):
                    yield tuple(zip(ticks, told))

    def first_line(self, house, begins, deeds, line, last):
        rows = oracle.course_of((house, oracle.speech_of(begins), deeds, last))
        return min((tick for tick, row in enumerate(rows) if row["stand"][5][line][0] == "on"), default=None)

    def test_latest_first(self):
        """FOR ALL DEEDS of at most three backs and askings of short LINES."""
        seen = set()
        for dice, house in self.houses(104, 6):
            line = dice.randrange(len(house[2]))
            panel, when, zones, _, _, out, _, _ = house[2][line]
            short_line = (panel, when, zones, dice.randint(0, 2), (), out, dice.randint(0, 2), dice.randint(0, 1))
            house = house[:2] + (house[2][:line] + (short_line,) + house[2][line + 1:],) + house[3:]
            begins = some_begins(dice, oracle.spots_of_feelers(house), 2)
            latest = {}
            rows = []
            for deeds in self.deeds_of((("back",), ("more", line)), 3, 9):
                backs = sum(deed == ("back",) for _, deed in deeds)
                pair = (backs, len(deeds) - backs)
                tick = self.first_line(house, begins, deeds, line, 14)
                rows.append((pair, deeds, tick))
                latest[pair] = max(latest.get(pair, tick), tick, key=oracle.later)
            for backs, asks in latest:
                told = max((tick for (b, a), _, tick in rows if b <= backs and a <= asks), key=oracle.later)
                self.assertEqual(own.latest_first(house, begins, line, backs, asks), told)
                seen.add(told)
                if told is None:
                    self.assertRaises(CanNot, own.late_deeds, house, begins, line, backs, asks)
                    continue
                deeds = own.late_deeds(house, begins, line, backs, asks)
                self.assertTrue(own.are_late_deeds(house, begins, line, backs, asks, deeds))
                self.assertEqual(self.first_line(house, begins, deeds, line, 20), told)
            for pair, deeds, tick in dice.sample(rows, 300):
                for backs, asks in ((0, 0), (1, 1), (3, 0), (0, 3), (3, 3)):
                    if (backs, asks) in latest:
                        so = tick is not None and tick == own.latest_first(house, begins, line, backs, asks)
                        fits = pair[0] <= backs and pair[1] <= asks
                        self.assertEqual(own.are_late_deeds(house, begins, line, backs, asks, deeds), so and fits)
        self.assertGreater(len(seen), 5)

    def test_out_latest(self):
        seen = set()
        for dice, house in self.houses(105, 16):
            begins = some_begins(dice, oracle.spots_of_feelers(house), 5)
            rows = {}
            for ticks in oracle.all_subsets(range(14)):
                if len(ticks) > 2:
                    break
                deeds = tuple((tick, ("back",)) for tick in ticks)
                rows[ticks] = oracle.first_on(house, begins, 24, deeds)[2]
            for out in range(len(house[3])):
                for backs in range(3):
                    some = [ticks for ticks in rows if len(ticks) <= backs]
                    latest = max((rows[ticks][out] for ticks in some), key=oracle.later)
                    self.assertEqual(own.out_latest(house, begins, out, backs), latest)
                    told = own.out_backs(house, begins, out, backs)
                    if latest is None:
                        self.assertEqual(told, ())
                        continue
                    best = [ticks for ticks in some if rows[ticks][out] == latest]
                    few = [ticks for ticks in best if len(ticks) == min(map(len, best))]
                    self.assertEqual(told, max(few))
                    for ticks in few:
                        self.assertTrue(all(one <= other for one, other in zip(ticks, told)))
                    seen.add(len(told))
        self.assertEqual(seen, {0, 1, 2})


class Greatest(unittest.TestCase):
    def test_two_hundred_ticks(self):
        dice = random.Random(106)
        for _ in range(3):
            play = some_play(dice, 200, 30)
            while play[3] < 100:
                play = some_play(dice, 200, 30)
            for number, (begin, end) in enumerate(own.fields(play)):
                self.assertEqual(own.field_play(play, number)[3], end)
            for out in range(len(play[0][3])):
                self.assertEqual(len(own.comes_on(play, out)), len(own.fields(play)))

    def test_six_backs_and_six_asks(self):
        line = (0, "any", (0,), 20, (), 0, 20, 1)
        house = inn[:2] + ((line,),) + inn[3:]
        told = own.latest_first(house, ((A, 20),), 0, 6, 6)
        self.assertEqual(told, 20 + 7 * 20 + 6 * 20)
        self.assertTrue(own.are_late_deeds(house, ((A, 20),), 0, 6, 6, own.late_deeds(house, ((A, 20),), 0, 6, 6)))
        self.assertEqual(own.out_backs(house, ((A, 20),), 0, 6), (40, 60, 80, 100, 120, 140))
