"""Stretches [13]."""

import itertools
import random
import unittest

from secondknock import stretches as own
from secondknock.errors import CanNot, NoSpot, NoZone
from tests import oracle
from tests.samples import barred, inn, keep, loft, some_begins, some_house
from tests.styles import StyledCase

A, B, C, D = (0, 0), (0, 1), (0, 2), (0, 3)
MURMUR = ((B, ((1, 3), (9, 10))), (C, ((4, 5),)), (D, ((10, 12),)))
ROW = (0, tuple(("feel", at) for at in range(8)))


def zone_of(spots, knocks, stay):
    return (tuple(spots), knocks, stay)


DUO = zone_of((B, C, D), 2, 2)
ONE = zone_of((B, C), 1, 0)


def house_of(zone):
    return ((ROW,), (zone,), (), (), 1)


def knock(zone, speech, many=30, backs=()):
    """When it is knocked in a PLAY of so many ticks, by [3]; the last set-back's knock."""
    deeds = tuple((tick, ("back",)) for tick in backs)
    rows = oracle.course_of((house_of(zone), speech, deeds, many))
    ticks = [tick for tick, row in enumerate(rows) if row["knocked"] == (0,) and tick >= (backs or (0,))[-1]]
    return min(ticks, default=None)


def some_speech(dice, spots, longest):
    told = []
    for spot in spots:
        marks = sorted(dice.sample(range(longest), dice.choice((0, 1, 2, 2, 3, 4))))
        rows = tuple((a, b) for a, b in zip(marks[::2], (marks + [None])[1::2]))
        if rows:
            told.append((spot, rows))
    return tuple(told)


def some_zone(dice, spots=(A, B, C)):
    own_spots = tuple(sorted(dice.sample(spots, dice.randint(1, len(spots)))))
    return zone_of(own_spots, dice.randint(1, min(2, len(own_spots))), dice.choice((None, 0, 1, 2, 3)))


def speech_by_sets(zone, talk):
    """The SPEECH of a TALK: stretches of one tick are put together."""
    told = {}
    for tick, row in enumerate(talk):
        for at in row:
            told.setdefault(zone[0][at], []).append(tick)
    speech = []
    for spot in sorted(told):
        rows = []
        for tick in told[spot]:
            if rows and rows[-1][1] == tick:
                rows[-1] = (rows[-1][0], tick + 1)
            else:
                rows.append((tick, tick + 1))
        speech.append((spot, tuple(rows)))
    return tuple(speech)


def talks(zone, many):
    sets = list(oracle.all_subsets(range(len(zone[0]))))
    return itertools.product(sets, repeat=many)


def speeches(zone, many):
    """All SPEECHES of so many ticks."""
    return [speech_by_sets(zone, talk) for talk in talks(zone, many)]


class Knocks(StyledCase):
    def test_knocked_at(self):
        for stay, told in ((2, 4), (1, 10), (0, None), (None, 4)):
            self.told(told, own.knocked_at, DUO[:2] + (stay,), MURMUR)
        self.told(1, own.knocked_at, ONE, MURMUR)
        self.told(None, own.knocked_at, ONE, MURMUR[2:])
        self.told(None, own.knocked_at, DUO, ())
        # A stretch without an end lasts for ever; SPOTS of others do not count.
        self.told(70, own.knocked_at, DUO, ((A, ((0, None),)), (B, ((3, None),)), (C, ((70, 71),))))
        # One SPOT twice is no two unlike ones.
        self.told(None, own.knocked_at, DUO, ((B, ((1, 2), (3, 4))),))

    def test_knocked_anew(self):
        self.told((4, 10), own.knocked_anew, DUO, MURMUR, (5,))
        self.told((4,), own.knocked_anew, DUO, MURMUR, ())
        # Set back at the tick of the knock: ahead of what speaks then.
        self.told((None, 10), own.knocked_anew, DUO, MURMUR, (4,))
        self.told((None, 4, None), own.knocked_anew, DUO, ((B, ((0, None),)), (C, ((4, 9),))), (2, 9))
        self.told((None, 0, 3, 7), own.knocked_anew, ONE, ((B, ((0, None),)),), (0, 3, 7))

    def test_least_stay(self):
        self.told(1, own.least_stay, DUO, (MURMUR,))
        self.told(0, own.least_stay, ONE, (MURMUR,))
        self.told(3, own.least_stay, DUO[:2] + (None,), (MURMUR, ((B, ((0, 1),)), (C, ((3, 4),)))))
        self.told(0, own.least_stay, DUO, (((B, ((0, None),)), (C, ((90, 91),))),))
        for rows in ((((B, ((0, None),)),),), (MURMUR, ()), (MURMUR, ((A, ((1, 2),)), (B, ((1, 2),))))):
            self.raises(CanNot(), own.least_stay, DUO, rows)
        self.raises(CanNot(), own.least_stay, ONE, (MURMUR[2:],))

    def test_helps(self):
        self.told((0, 1, 2, 3), own.helps, DUO, MURMUR, D, 9)
        self.told((0, 1), own.helps, DUO, MURMUR, D, 2)
        self.told((), own.helps, DUO, MURMUR, D, 0)
        # What it tells already does not help; of never, each tick that lasts to another one's.
        self.told((), own.helps, DUO, MURMUR, B, 2)
        self.told((3, 4, 5, 6, 7), own.helps, DUO, ((C, ((5, 6),)),), B, 60)
        self.told((0, 1, 2, 3, 4), own.helps, DUO[:2] + (None,), ((C, ((2, 3),)),), B, 5)
        self.told((0,), own.helps, ONE, ((C, ((1, 3),)),), B, 60)

    def test_room(self):
        self.told((2, 3), own.room, DUO, MURMUR, B, 0)
        # B's other stretch and D's do not matter.
        self.told((9, 10), own.room, DUO, MURMUR, B, 1)
        self.told((11, 11), own.room, DUO, MURMUR, D, 0)
        self.told((4, 5), own.room, DUO, MURMUR, C, 0)
        # Without an end: the greatest begin is that of the knock, or there is none.
        open_one = ((B, ((1, None),)), (C, ((8, None),)), (D, ((30, None),)))
        self.told((8, 7), own.room, DUO, open_one, B, 0)
        self.told((8, 9), own.room, DUO, open_one, C, 0)
        self.told((None, 31), own.room, DUO, open_one, D, 0)
        self.told((None, 2), own.room, ONE, ((B, ((1, None),)), (C, ((1, 4),))), B, 0)
        for spot, number in ((B, 2), (B, -1), (D, 1)):
            self.raises(CanNot(), own.room, DUO, MURMUR, spot, number)
        self.raises(CanNot(), own.room, DUO[:2] + (0,), MURMUR, B, 0)
        self.raises(CanNot(), own.room, DUO, MURMUR[:2], D, 0)

    def test_no_spot(self):
        for spot in (A, (9, 9), (0, 7)):
            self.raises(NoSpot(spot), own.room, DUO, (), spot, 99)
            self.raises(NoSpot(spot), own.helps, DUO, MURMUR, spot, 3)


class Comparing(StyledCase):
    PAIRS = (
        (ONE, ONE, True), (ONE, zone_of((B,), 1, None), True), (zone_of((B,), 1, None), ONE, False),
        (ONE, DUO, True), (zone_of((B,), 1, 0), DUO, False), (DUO, ONE, False), (DUO, zone_of((B,), 1, 0), False),
        (DUO, DUO, True), (DUO[:2] + (None,), DUO, True), (DUO, DUO[:2] + (None,), False), (DUO[:2] + (1,), DUO, False),
        (DUO, zone_of((B, C), 2, 2), True), (zone_of((B, C), 2, 2), DUO, False), (zone_of((B, C), 2, None), DUO, False),
        (zone_of((A,), 1, 3), zone_of((A, B), 2, None), True), (zone_of((A,), 1, 3), zone_of((B, C), 2, None), False),
    )

    def test_never_behind(self):
        for zone, other, told in self.PAIRS:
            self.told(told, own.never_behind, zone, other)

    def test_parting_speech(self):
        for zone, other, never in self.PAIRS:
            if never:
                self.raises(CanNot(), own.parting_speech, zone, other)
                continue
            told = own.parting_speech(zone, other)
            self.told(told, own.parting_speech, zone, other)
            self.things([told], [(), list(told)], own.is_parting_speech, zone, other)
            one, two = knock(zone, told), knock(other, told)
            self.assertTrue(two is not None and (one is None or one > two))

    def test_is_parting_speech(self):
        self.things(
            [MURMUR, ((B, ((1, 2),)), (C, ((2, 3),)), ((7, 70), ((0, None),)))],
            [
                MURMUR[1:], MURMUR[::-1], ((B, ((1, 2),)), (C, ((1, 2),))), ((B, ()), (C, ((2, 3),))),
                ((B, ((1, 2),)), (C, ((2, 2),))), ((B, ((1, 2),)), (C, [(2, 3)])), ((B, ((1, 2), (2, 3))), (C, ((2, 3),))),
                ((B, ((1, 2),)), (B, ((2, 3),))), ((B, ((1, 2),)), (C, ((2, True),))), (B, C), ((B,), (C,)),
                ((B, ((1, 2),)), ([0, 2], ((2, 3),))), ((B, ((-1, 2),)), (C, ((2, 3),))), ((B, None), (C, None)),
            ],
            own.is_parting_speech, DUO[:2] + (0,), DUO,
        )


class Echoes(StyledCase):
    def test_echo_behind(self):
        self.told((0, 0, 0), own.echo_behind, DUO, MURMUR, 0)
        self.told((2, 0, 0), own.echo_behind, DUO, MURMUR, 2)
        self.told((1, 0, 0), own.echo_behind, DUO, MURMUR, 3)
        self.told(None, own.echo_behind, DUO, MURMUR, 4)
        self.told(None, own.echo_behind, DUO, MURMUR, 50)
        self.told((1, 0, 0), own.echo_behind, DUO[:2] + (None,), MURMUR, 3)
        self.told((0, 0, 0), own.echo_behind, DUO[:2] + (0,), MURMUR, 4)
        self.told((0, 0), own.echo_behind, ONE, MURMUR, 0)
        self.told((2, 0, 0), own.echo_behind, DUO, ((B, ((0, None),)),), 60)

    def test_rest_apart(self):
        self.told(((), (1,)), own.rest_apart, DUO, (2, 0, 0), (1, 0, 0))
        self.told((), own.rest_apart, DUO, (2, 0, 0), None)
        self.told((), own.rest_apart, ONE, None, (0, 0))
        self.told(None, own.rest_apart, DUO, None, None)
        self.told(None, own.rest_apart, DUO, (0, 2, 0), (0, 2, 0))
        self.told(((0,),), own.rest_apart, DUO, (0, 2, 0), (0, 0, 0))
        self.told(((1,),), own.rest_apart, DUO, (0, 0, 0), (1, 0, 0))
        self.told(((1,),), own.rest_apart, DUO, (0, 0, 1), (0, 2, 0))
        self.told(((0,),), own.rest_apart, DUO[:2] + (None,), (0, 0, 0), (0, 0, 1))

    def test_silent_talks(self):
        self.told(10, own.silent_talks, DUO, 2)
        self.told(1, own.silent_talks, DUO, 0)
        self.told(4, own.silent_talks, DUO, 1)
        self.told(1, own.silent_talks, ONE, 60)
        self.told(4 ** 60, own.silent_talks, DUO[:2] + (0,), 60)
        # With stay None all that ever speaks is one SPOT.
        self.told(1 + 3 * (2 ** 60 - 1), own.silent_talks, DUO[:2] + (None,), 60)

    def test_silent_talk(self):
        self.told(((0,), (0,)), own.silent_talk, DUO, 2, 5)
        self.told(((), ()), own.silent_talk, DUO, 2, 0)
        self.told(((2,), (2,)), own.silent_talk, DUO, 2, 9)
        self.told((), own.silent_talk, DUO, 0, 0)
        self.told(((), (), ()), own.silent_talk, ONE, 3, 0)
        self.told(((2,),) * 60, own.silent_talk, DUO[:2] + (0,), 60, 4 ** 60 - 1)
        for zone, many, number in ((DUO, 2, 10), (DUO, 2, -1), (ONE, 3, 1), (DUO, 0, 1), (DUO, 3, 10 ** 30)):
            self.raises(CanNot(), own.silent_talk, zone, many, number)


class Lots(StyledCase):
    BEGINS = (((0, 2), 1), ((0, 3), 2), ((0, 6), 3))

    def test_knocks_by_lots(self):
        self.told([(2, 13), (None, 4)], own.knocks_by_lots, inn, 1, self.BEGINS, 1)
        self.told([(2, 1)], own.knocks_by_lots, inn, 1, self.BEGINS, 0)
        self.told([(None, 17)], own.knocks_by_lots, inn, 1, (), 1)
        # A stay does not matter; a RING of another panel has no part.
        self.told([(0, 15), (None, 2)], own.knocks_by_lots, barred, 0, (((0, 0), 0),), 1)

    def test_no_zone(self):
        for number in (-1, 2, 99):
            self.raises(NoZone(number), own.knocks_by_lots, inn, number, self.BEGINS, 1)


class ForAll(unittest.TestCase):
    """By PLAYS of a house with one ZONE."""

    def test_knocks(self):
        dice = random.Random(71)
        for _ in range(400):
            zone, speech = some_zone(dice), some_speech(dice, (A, B, C, D), 14)
            self.assertEqual(own.knocked_at(zone, speech), knock(zone, speech))
            backs = tuple(sorted(dice.sample(range(20), dice.randint(0, 3))))
            told = []
            for begin, end in zip((0,) + backs, backs + (30,)):
                done = tuple(tick for tick in backs if tick <= begin)
                told.append(knock(zone, speech, end, done) if end > begin else None)
            self.assertEqual(own.knocked_anew(zone, speech, backs), tuple(told))

    def test_least_stay(self):
        dice = random.Random(72)
        seen = set()
        for _ in range(120):
            zone = some_zone(dice)
            rows = [some_speech(dice, (A, B, C, D), 12) for _ in range(dice.randint(1, 3))]
            fit = [
                stay for stay in range(14) if all(knock(zone[:2] + (stay,), speech, 14) is not None for speech in rows)
            ]
            seen.add(min(fit, default=None))
            if fit:
                self.assertEqual(own.least_stay(zone, rows), min(fit))
                self.assertEqual(fit, list(range(min(fit), 14)))
            else:
                self.assertRaises(CanNot, own.least_stay, zone, rows)
        self.assertGreater(len(seen), 4)

    def with_ticks(self, speech, spot, ticks):
        """The SPEECH in which this SPOT speaks at just these ticks; up to tick 17 for ever."""
        rows = []
        for tick in sorted(ticks):
            if rows and rows[-1][1] == tick:
                rows[-1] = (rows[-1][0], tick + 1)
            else:
                rows.append((tick, tick + 1))
        rows = tuple((a, None if b == 18 else b) for a, b in rows)
        told = dict(speech)
        told.pop(spot, None)
        if rows:
            told[spot] = rows
        return tuple(sorted(told.items()))

    def test_helps_and_room(self):
        dice = random.Random(73)
        rooms = 0
        for _ in range(80):
            zone, speech = some_zone(dice), some_speech(dice, (A, B, C, D), 9)
            plain = knock(zone, speech, 18)
            spot = dice.choice(zone[0])
            rows = dict(speech).get(spot, ())
            ticks = {tick for tick in range(18) if any(a <= tick and (b is None or tick < b) for a, b in rows)}
            told = []
            for tick in range(12):
                sooner = knock(zone, self.with_ticks(speech, spot, ticks | {tick}), 18)
                if sooner is not None and (plain is None or sooner < plain):
                    told.append(tick)
            self.assertEqual(own.helps(zone, speech, spot, 12), tuple(told))
            for number, (begin, end) in enumerate(rows):
                if plain is None:
                    self.assertRaises(CanNot, own.room, zone, speech, spot, number)
                    continue
                begins, ends = [], []
                for mark in range(18):
                    for pair, found, at in (((mark, end), begins, mark), ((begin, mark), ends, mark)):
                        a, b = pair
                        if (b is None or a < b) and a >= (rows[number - 1][1] + 1 if number else 0):
                            if b is not None and number + 1 < len(rows) and b >= rows[number + 1][0]:
                                continue
                            changed = dict(speech)
                            changed[spot] = rows[:number] + (pair,) + rows[number + 1:]
                            if knock(zone, tuple(sorted(changed.items())), 18) == plain:
                                found.append(at)
                greatest = None if end is None and 17 in begins else max(begins)
                self.assertEqual(own.room(zone, speech, spot, number), (greatest, min(ends)))
                rooms += 1
            self.assertRaises(CanNot, own.room, zone, speech, spot, len(rows))
        self.assertGreater(rooms, 50)

    def test_never_behind(self):
        """By all SPEECHES of four ticks of three SPOTS: enough for stays to 2."""
        whole = zone_of((A, B, C), 1, None)
        rows = speeches(whole, 4)
        zones = [
            zone_of(spots, knocks, stay)
            for spots in ((A,), (A, B), (B, C), (A, B, C))
            for knocks in (1, 2) if knocks <= len(spots)
            for stay in (None, 0, 1, 2)
        ]
        ticks = {zone: [own.knocked_at(zone, speech) for speech in rows] for zone in zones}
        for zone in (zones[0], zones[9], zones[-1]):
            self.assertEqual(ticks[zone][::50], [knock(zone, speech, 9) for speech in rows[::50]])
        seen = set()
        for zone, other in itertools.product(zones, repeat=2):
            late = [
                speech for speech, one, two in zip(rows, ticks[zone], ticks[other])
                if oracle.later(one) > oracle.later(two)
            ]
            self.assertEqual(own.never_behind(zone, other), late == [], (zone, other))
            seen.add(late == [])
            if late:
                told = own.parting_speech(zone, other)
                self.assertTrue(own.is_parting_speech(zone, other, told))
                self.assertIn(told, late)
            else:
                self.assertRaises(CanNot, own.parting_speech, zone, other)
        self.assertEqual(seen, {True, False})

    def echo_by_words(self, zone, talk):
        """None, or how many ticks more each SPOT lasts if nothing speaks any more."""
        spots, knocks, stay = zone
        last = {at: max(tick for tick, row in enumerate(talk) if at in row)
                for at in range(len(spots)) if any(at in row for row in talk)}
        if knock(zone, speech_by_sets(zone, talk), len(talk)) is not None:
            return None
        if stay is None:
            return tuple(int(at in last) for at in range(len(spots)))
        return tuple(
            sum(last[at] + stay >= tick for tick in range(len(talk), len(talk) + stay)) if at in last else 0
            for at in range(len(spots))
        )

    ZONES = [zone_of((A, B, C), 2, stay) for stay in (None, 0, 1, 2)] + [
        zone_of((A, B), 2, 2), zone_of((A, B), 1, 1), zone_of((A,), 1, None)]

    def test_echoes(self):
        for zone in self.ZONES:
            found = {}
            for many in range(1, 5 if len(zone[0]) < 3 else 4):
                for talk in talks(zone, many):
                    echo = self.echo_by_words(zone, talk)
                    self.assertEqual(own.echo_behind(zone, speech_by_sets(zone, talk), many - 1), echo)
                    found.setdefault(echo, talk)
            n, stay = len(zone[0]), zone[2]
            count = 2 if zone[1] == 1 else 2 + n if stay is None else 2 + n * stay
            self.assertEqual(len(found), count)
            for one, other in itertools.product(found, repeat=2):
                told = own.rest_apart(zone, one, other)
                self.assertEqual(told, self.shortest(zone, found[one], found[other]) if one != other else None)

    def shortest(self, zone, one, other):
        """The first TALK, by length and then least, behind which just one TALK has it knocked, by all TALKS."""
        for many in range(5):
            for talk in talks(zone, many) if zone[1] == 2 else [()] * (many == 0):
                rows = [knock(zone, speech_by_sets(zone, ahead + talk), 12) for ahead in (one, other)]
                if (rows[0] is None) != (rows[1] is None):
                    fit = [
                        own_talk for own_talk in sorted(talks(zone, many))
                        if (knock(zone, speech_by_sets(zone, one + own_talk), 12) is None)
                        != (knock(zone, speech_by_sets(zone, other + own_talk), 12) is None)
                    ]
                    return fit[0]
        return None

    def test_silent_talks(self):
        for zone in self.ZONES:
            for many in range(4):
                rows = sorted(talk for talk in talks(zone, many) if knock(zone, speech_by_sets(zone, talk)) is None)
                self.assertEqual(own.silent_talks(zone, many), len(rows))
                self.assertEqual([own.silent_talk(zone, many, number) for number in range(len(rows))], rows)
                self.assertRaises(CanNot, own.silent_talk, zone, many, len(rows))

    def test_long_silent_talks(self):
        dice = random.Random(74)
        for zone in (zone_of(((0, at) for at in range(8)), 2, 20), DUO, DUO[:2] + (None,), DUO[:2] + (0,)):
            many = own.silent_talks(zone, 60)
            numbers = sorted(dice.randrange(many) for _ in range(8))
            rows = [own.silent_talk(zone, 60, number) for number in numbers]
            self.assertEqual(rows, sorted(rows))
            self.assertEqual(own.silent_talk(zone, 60, many - 1), ((len(zone[0]) - 1,),) * 60)
            for talk in rows:
                self.assertEqual(len(talk), 60)
                self.assertIsNone(own.knocked_at(zone, speech_by_sets(zone, talk)))

    def test_knocks_by_lots(self):
        dice = random.Random(75)
        kinds = 0
        while kinds < 25:
            house = some_house(dice)
            if not house[1]:
                continue
            number = dice.randrange(len(house[1]))
            spots, knocks, _ = house[1][number]
            rings = sorted({spot[0] for spot in spots})
            if sum(len(house[0][ring][1]) + 1 for ring in rings) > 7:
                continue
            kinds += 1
            begins = some_begins(dice, oracle.spots_of_feelers(house), 5)
            ways = [gap for gap in oracle.all_gaps(house[0]) if gap[0] in rings]
            counts = [{} for _ in range(5)]
            for words in itertools.product((None, "break", "short"), repeat=len(ways)):
                faults = tuple(sorted((word, gap) for word, gap in zip(words, ways) if word))
                if len(faults) <= 4:
                    there = oracle.heard(house[0], faults)
                    ticks = sorted(tick for spot, tick in begins if spot in spots and spot in there)
                    tick = ticks[knocks - 1] if len(ticks) >= knocks else None
                    for most in range(len(faults), 5):
                        counts[most][tick] = counts[most].get(tick, 0) + 1
            for most, table in enumerate(counts):
                told = sorted(table.items(), key=lambda own_pair: oracle.later(own_pair[0]))
                self.assertEqual(own.knocks_by_lots(house, number, begins, most), told)

    def test_knocks_by_lots_is_so_in_plays(self):
        """By all sets of at most one FAULT, harmed at tick 0."""
        for house, number, begins in ((inn, 1, Lots.BEGINS), (loft, 1, (((1, 0), 4),)), (keep, 0, (((0, 0), 1), ((0, 3), 2)))):
            rings = {spot[0] for spot in house[1][number][0]}
            table = {}
            lots = [()] + [
                ((0, ("harm", (word, gap))),) for gap in oracle.all_gaps(house[0]) if gap[0] in rings
                for word in ("break", "short")
            ]
            for deeds in lots:
                tick = oracle.first_on(house, begins, 9, deeds)[0][number]
                table[tick] = table.get(tick, 0) + 1
            told = sorted(table.items(), key=lambda own_pair: oracle.later(own_pair[0]))
            self.assertEqual(own.knocks_by_lots(house, number, begins, 1), told)


class Greatest(unittest.TestCase):
    def test_lots_of_three_rings(self):
        pieces = tuple(("feel", at) if at % 4 != 3 else ("cut",) for at in range(10))
        rings = ((0, pieces), (0, pieces[::-1]), (0, pieces))
        spots = ((0, 0), (0, 4), (1, 1), (1, 3), (2, 0), (2, 9))
        house = (rings, ((spots, 2, None),), (), (), 1)
        begins = tuple((spot, at) for at, spot in enumerate(spots))
        told = own.knocks_by_lots(house, 0, begins, 4)
        self.assertEqual(sum(many for _, many in told), sum(
            len(list(itertools.combinations(range(33), many))) * 2 ** many for many in range(5)))
        self.assertEqual([tick for tick, _ in told], [1, 2, 3, 4, 5, None][:len(told)])

    def test_stretches_to_two_hundred(self):
        speech = ((B, ((0, 5), (30, 60), (150, None))), (C, ((90, 91), (170, 200))))
        zone = DUO[:2] + (20,)
        self.assertEqual(own.knocked_at(zone, speech), 170)
        self.assertEqual(own.least_stay(zone, (speech,)), 0)
        self.assertEqual(own.room(zone, speech, B, 2), (170, 151))
        self.assertEqual(own.room(zone, speech, C, 1), (170, 171))
        self.assertEqual(own.helps(zone, speech, D, 60)[:3], (0, 1, 2))
