"""One judge [24]."""

import itertools
import random
import unittest

from secondknock import judge as own
from secondknock.compare import holds, keeps, ways_to_break
from secondknock.cutoffs import cut_house, kept_by
from secondknock.errors import CanNot, TooMany, Unfit
from secondknock.hands import fewest_hands
from secondknock.houses import is_house
from secondknock.mending import heal_takes
from secondknock.rising import first_ticks
from tests import oracle
from tests.samples import (
    bare, bare_house, barred, crack, crowd, inn, keep, loft, risen, short, some_house, some_lines, tower,
)
from tests.styles import StyledCase

A, B, C, BELL, D = (0, 0), (0, 2), (0, 3), (0, 4), (0, 6)
TALK, TOOLS = ((B, ((1, 4),)),), (("back",), ("off", B), ("quiet",))
HUSH, LOUD, CALM = ("silent", 0), ("sounds", 0), ("still",)
CROSS = bare_house(3, [(0, "any", (0, 1, 2), 3, (0, 1, 2), out, 0, 0) for out in (0, 1, 0, 1)], ("bell", "door", "door"))
MANY = tuple(sorted([("harm", ("short", (0, at))) for at in range(8)]))
LATER = inn[:2] + (((0, "any", (0,), 4, (), 0, 4, 0),) + inn[2][1:],) + inn[3:]

WITHIN = ("pledge", inn, ("within", 0, 0, 3))
SHARP = ("pledge", barred, ("within", 0, 0, 3))
BORNE = ("hands", inn, TALK, TOOLS[2:], 3, LOUD, 1)
DONE = ("hands", inn, TALK, TOOLS, 6, HUSH, 2)
ALIKE = ("alike", inn, inn)
PARTED = ("alike", inn, LATER)
SAFE = ("mending", inn, (short, crack))
HARMED = ("mending", inn, (crack, short))
HOLDING = ("cuts", inn, 0, (1, 1), (1, 4))
LOOSE = ("cuts", inn, 0, (1, 2), (1, 4))
STILL = ("still", inn, (1, 2), (B,))
NOISY = ("still", inn, (0, 1, 2), ())
STANDING = (WITHIN, BORNE, ALIKE, SAFE, HOLDING, STILL)
FALLING = (SHARP, DONE, PARTED, HARMED, LOOSE, NOISY)
WITHOUT_REASONS = (ALIKE, PARTED, SAFE, HARMED, HOLDING, LOOSE, STILL, NOISY)

GOOD = STANDING + FALLING + (
    ("pledge", inn, ("never", 0)), ("pledge", inn, ("sure", 1, ())), ("pledge", CROSS, ("apart", 0, 1)),
    # Whatever the bounds of the points: many above 12, most above 3, goods of more than 8 DEEDS.
    ("hands", inn, (), (), 0, CALM, 0), ("hands", inn, TALK, MANY + (("sound",),), 10 ** 30, CALM, 99),
    ("hands", loft, (), (("part", 0), ("part", 1)), 3, ("seen", 1), 1),
    ("alike", bare, bare), ("mending", bare, ()), ("mending", inn, tuple(("short", (0, at)) for at in range(7, -1, -1))),
    ("cuts", inn, 0, (10 ** 30, 0), ()), ("cuts", inn, 0, (0, 0), (0, 1, 2, 3, 4, 5)), ("cuts", keep, 1, (1, 1, 1), (0,)),
    ("still", inn, (), ()), ("still", bare, (), ()), ("still", inn, (0, 1, 2), (A, B, C, D)),
)
BAD = (
    ("pledge", inn), ("pledge", inn, ("within", 0, 0)), ("pledge", inn, ("never", 2)), ("pledge", inn, ["never", 0]),
    ("pledge", inn[:4] + (4,), ("never", 0)), ("pledge", inn, ("never", 0), 0), ["pledge", inn, ("never", 0)],
    ("claim", inn, ("never", 0)), (inn, "pledge", ("never", 0)), (("pledge",), inn, ("never", 0)), ([], inn, ("never", 0)),
    ("hands", inn, TALK, TOOLS, 6, HUSH), ("hands", inn, TALK, TOOLS[::-1], 6, HUSH, 2), ("hands", inn, (A,), TOOLS, 6, HUSH, 2),
    ("hands", inn, TALK, TOOLS + TOOLS[2:], 6, HUSH, 2), ("hands", inn, TALK, (("part", 0),), 6, HUSH, 2),
    ("hands", inn, TALK, list(TOOLS), 6, HUSH, 2), ("hands", inn, TALK, TOOLS, -1, HUSH, 2), ("hands", inn, TALK, TOOLS, 6, ("silent", 2), 2),
    ("hands", inn, TALK, TOOLS, True, HUSH, 2), ("hands", inn, TALK, TOOLS, 6, HUSH, None), ("hands", inn, TALK, ((0, ("back",)),), 6, HUSH, 2),
    ("alike", inn), ("alike", inn, barred), ("alike", barred, inn), ("alike", inn, tower), ("alike", inn, inn, inn), ("alike", inn, bare),
    ("mending", inn, (crack, crack)), ("mending", inn, (short, ("break", (0, 4)))), ("mending", inn, (("break", (0, 8)),)),
    ("mending", inn, [short, crack]), ("mending", inn, (short, None)), ("mending", inn, (("short", (False, 4)),)), ("mending", inn[0], (short,)),
    ("cuts", inn, 0, (1, 1)), ("cuts", inn, 1, (1, 1), (1, 4)), ("cuts", inn, False, (1, 1), (1, 4)), ("cuts", inn, 0, (1,), (1, 4)),
    ("cuts", inn, 0, (1, -1), (1, 4)), ("cuts", inn, 0, (1, 1), (4, 1)), ("cuts", inn, 0, (1, 1), (1, 6)), ("cuts", inn, 0, [1, 1], (1,)),
    ("cuts", keep, 2, (1, 1, 1), (0,)), ("cuts", bare, 0, (), ()), ("cuts", inn, 0, (1, True), (1, 4)), ("cuts", inn, 0, (1, 1), (1, 4), ()),
    ("still", inn, (1, 2)), ("still", inn, (1, 3), (B,)), ("still", inn, (2, 1), (B,)), ("still", inn, (1, 2), (BELL,)),
    ("still", inn, (1, 2), (B, A)), ("still", inn, (True, 2), (B,)), ("still", inn, [1, 2], (B,)), ("still", inn, (1, 2), (B,), ()),
    ("still", bare, (0,), ()), inn, ("pledge",), ("still", inn, None, None),
)


def lists(value):
    return [lists(own_one) for own_one in value] if isinstance(value, (tuple, list)) else value


class Claims(StyledCase):
    def test_is_claim(self):
        self.things(GOOD, BAD, own.is_claim)
        for claim in GOOD:
            self.told(False, own.is_claim, lists(claim))

    def test_unfit(self):
        for claim in BAD + (None, 0, "pledge", (), ((),), "", True):
            if own.is_claim(tuple_of(claim)):
                continue
            self.raises(Unfit(), own.is_so, claim)
            self.raises(Unfit(), own.paper_against, claim)
            self.raises(Unfit(), own.is_paper_against, claim, None)
            self.raises(Unfit(), own.reason_for, claim)
            self.raises(Unfit(), own.is_reason_for, claim, None)
            self.raises(Unfit(), own.first_fallen, (SHARP, claim))

    def test_is_so(self):
        for claim in STANDING:
            self.told(True, own.is_so, claim)
            self.told(None, own.paper_against, claim)
        for claim in FALLING:
            self.told(False, own.is_so, claim)
        for claim, told in (
            (("pledge", inn, ("sure", 1, ())), False), (("pledge", bare_house(0, [], ("bell",)), ("never", 0)), True),
            (("hands", inn, (), (), 0, CALM, 0), False), (("alike", bare, bare), True), (("mending", bare, ()), True),
            (("cuts", inn, 0, (10 ** 30, 0), ()), False), (("cuts", inn, 0, (0, 0), ()), True), (("still", bare, (), ()), True),
        ):
            self.told(told, own.is_so, claim)


def tuple_of(value):
    return tuple(tuple_of(own_one) for own_one in value) if isinstance(value, (tuple, list)) else value


class Papers(StyledCase):
    def test_papers_are_papers(self):
        for claim in FALLING:
            paper = own.paper_against(claim)
            self.told(paper, own.paper_against, claim)
            self.told(True, own.is_paper_against, claim, paper)
            self.told(False, own.is_paper_against, claim, lists(paper))

    def test_pledge(self):
        for times, told in (
            ((1, 4), True), ((0, 0), True), ((1, 5), False), ((1, None), False), ((None, None), False), ((1,), False),
            ([1, 4], False), ((True, 4), False), ((1, 4, 4), False), ((1, -1), False), (None, False), ((), False),
        ):
            self.told(told, own.is_paper_against, SHARP, times)
        self.things([], [(1, 4), (None, None)], own.is_paper_against, WITHIN)
        # () are TIMES where there is no ZONE.
        none = ("pledge", bare_house(0, [], ("bell",)), ("sure", 0, ()))
        self.told((), own.paper_against, none)
        self.told((0, ()), own.first_fallen, (none,))

    def test_hands(self):
        good = [((0, ("off", B)),), ((0, ("quiet",)), (3, ("back",))), ((2, ("quiet",)),)]
        bad = [(), ((0, ("off", B)), (1, ("quiet",)), (2, ("quiet",))), ((0, ["off", B]),), ((0, ("back",)),), ((6, ("quiet",)),)]
        self.things(good, bad, own.is_paper_against, DONE)
        self.things([], good[:1] + [()], own.is_paper_against, BORNE[:5] + (("seen", 1), 1))

    def test_alike(self):
        good = [(0, ((A, 0),)), (0, ((A, 9), (B, 3))), (0, ((B, 200), (C, 0)))]
        bad = [(1, ((A, 0), (C, 0), (D, 0))), (0, ((C, 0),)), (0, ()), (0, ((BELL, 0),)), (2, ((A, 0),)), (0, ((A, True),)),
               (0, ((B, 0), (A, 0))), [0, ((A, 0),)], (0, [(A, 0)]), (False, ((A, 0),)), (0, ((A, 0),), 0), (0, ((A, 0), ((0, 9), 0)))]
        self.things(good, bad, own.is_paper_against, PARTED)
        # Of feelers of one of both: (0, 1) is one in the first HOUSE alone, (0, 2) in the other one alone.
        line = ((0, "any", (0,), 0, (), 0, 0, 0),)
        one = (((0, (("feel", 0), ("feel", 0), ("cut",))),), ((((0, 0), (0, 1)), 1, None),), line, ("door",), 1)
        other = (((0, (("feel", 0), ("cut",), ("feel", 0))),), ((((0, 0), (0, 2)), 1, None),), line, ("door",), 1)
        self.assertTrue(is_house(one) and is_house(other))
        good = [(0, (((0, 1), 4),)), (0, (((0, 2), 4),)), (0, (((0, 1), 4), ((0, 2), 5)))]
        bad = [(0, (((0, 1), 4), ((0, 2), 4))), (0, (((0, 0), 4), ((0, 2), 5))), (0, (((0, 2), 4), ((0, 3), 5)))]
        self.things(good, bad, own.is_paper_against, ("alike", one, other))

    def test_mending(self):
        self.things([(0, B)], [(1, B), (0, C), (0, A), [0, B], (0, [0, 2]), (False, B), (0, (False, 2)), (2, B), (0,), (0, BELL)],
                    own.is_paper_against, HARMED)
        self.things([], [(0, B), (1, B)], own.is_paper_against, SAFE)

    def test_cuts(self):
        self.things(
            [("short", (0, 3)), ("short", (0, 2)), ("short", (0, 5))],
            [("break", (0, 3)), ("short", (0, 6)), ("short", (0, 8)), ("short", (1, 3)), ["short", (0, 3)], ("short", [0, 3]),
             ("short", (False, 3)), ("cut", (0, 3)), (("short", (0, 3)),)],
            own.is_paper_against, LOOSE,
        )
        self.things([], [("short", (0, 3)), ("break", (0, 3))], own.is_paper_against, HOLDING)
        # With more asked for than there are SPOTS any FAULT is one; on another RING it is none.
        asks = ("cuts", loft, 0, (2, 0), (0,))
        self.things([("break", (0, 0)), ("short", (0, 6))], [("short", (1, 0)), ("break", (0, 7)), ("break", (1, 0))],
                    own.is_paper_against, asks)

    def test_still(self):
        self.things(
            [(1, (C, D)), (0, (A,)), (0, (B,)), (1, (B, D))],
            [(0, (A, B)), (1, (C,)), (1, (D, C)), (0, (C,)), (2, (A,)), [0, (A,)], (0, [A]), (0, ()), (False, (A,)), (0, ((0, False),)),
             (1, (B, C, D)), (1, (A, B)), (0, (A,), 0), (0, (BELL,))],
            own.is_paper_against, NOISY,
        )
        self.things([], [(1, (B, C)), (0, (B,)), (1, (C, D))], own.is_paper_against, STILL)


class Reasons(StyledCase):
    def test_pledge(self):
        reason = own.reason_for(WITHIN)
        self.told(reason, own.reason_for, WITHIN)
        self.assertEqual(len(reason), len(ways_to_break(inn, WITHIN[2])))
        bad = [(), reason[1:], reason + reason[:1], list(reason), (list(reason[0]),) + reason[1:], ((),) + reason[1:]]
        self.things([reason], bad, own.is_reason_for, WITHIN)
        # Where nothing can break it () is the REASON.
        self.told((), own.reason_for, ("pledge", bare_house(0, [], ("bell",)), ("never", 0)))
        for claim in (SHARP, ("pledge", inn, ("never", 0))):
            self.told(None, own.reason_for, claim)
            self.told(False, own.is_reason_for, claim, reason)

    def test_hands(self):
        reason = own.reason_for(BORNE)
        self.told(reason, own.reason_for, BORNE)
        self.things([reason, reason[::-1]], [reason[1:], reason[:-1], list(reason), reason * 2, ()], own.is_reason_for, BORNE)
        self.told(None, own.reason_for, DONE)
        self.told(False, own.is_reason_for, DONE, reason)

    def test_words_without_reasons(self):
        for claim in WITHOUT_REASONS + (("alike", crowd, crowd),):
            self.raises(CanNot(), own.reason_for, claim)
            self.told(False, own.is_reason_for, claim, None)
            self.told(False, own.is_reason_for, claim, ())

    def test_first_fallen(self):
        self.told(None, own.first_fallen, STANDING)
        self.told(None, own.first_fallen, ())
        for number, claim in enumerate(FALLING):
            told = own.first_fallen(STANDING[:number] + FALLING[number:])
            self.told(told, own.first_fallen, STANDING[:number] + FALLING[number:])
            self.assertEqual(told[0], number)
            self.assertTrue(own.is_paper_against(claim, told[1]))
        # What no HANDS but () meet: () is the PAPER.
        self.told((1, ()), own.first_fallen, (SAFE, ("hands", inn, TALK, TOOLS, 6, LOUD, 2), SHARP))
        self.raises(Unfit(), own.first_fallen, (ALIKE, ("alike", inn, barred)))


class TooGreat(StyledCase):
    PLEDGE = ("pledge", CROSS, ("apart", 0, 1))
    HANDS = ("hands", inn, TALK, MANY, 12, CALM, 3)
    FORMS = ("alike", crowd, crowd)

    def test_too_many(self):
        for claim in (self.PLEDGE, self.HANDS, self.FORMS):
            self.raises(TooMany(), own.is_so, claim)
            self.raises(TooMany(), own.paper_against, claim)
        for claim in (self.PLEDGE, self.HANDS):
            self.raises(TooMany(), own.reason_for, claim)
        self.raises(TooMany(), own.is_reason_for, self.PLEDGE, None)
        self.raises(TooMany(), own.is_paper_against, self.FORMS, (0, ()))
        self.raises(TooMany(), own.is_paper_against, ("alike", crowd, crowd[:2] + ((),) + crowd[3:]), None)
        # As are_hands, is_hands_paper and keeps: none.
        self.told(True, own.is_paper_against, self.HANDS[:5] + (HUSH, 3), ((1, MANY[2]),))
        self.told(False, own.is_reason_for, self.HANDS, ())
        self.told(False, own.is_paper_against, self.PLEDGE, (None, None, None))

    def test_first_fallen(self):
        # Up to the one told.
        self.raises(TooMany(), own.first_fallen, (SAFE, self.HANDS, SHARP))
        self.assertEqual(own.first_fallen((SAFE, SHARP, self.HANDS))[0], 1)
        self.raises(Unfit(), own.first_fallen, (self.HANDS, ("alike", inn, barred)))


class ForAll(unittest.TestCase):
    def test_pledges(self):
        dice = random.Random(241)
        kinds = {True: 0, False: 0}
        for _ in range(150):
            many = dice.randint(1, 2)
            house = bare_house(many, some_lines(dice, many, 3, 3, 2), ("bell", "door"))
            zone = dice.randrange(many)
            pledge = dice.choice((
                ("never", 0), ("sure", 0, (zone,)), ("within", 0, zone, dice.randint(0, 4)), ("ahead", 0, 1, dice.randint(0, 2)),
                ("apart", 0, 1),
            ))
            claim = ("pledge", house, pledge)
            broken = [times for times in oracle.all_times(many, 8) if not keeps(house, pledge, times)]
            self.assertEqual(own.is_so(claim), broken == [])
            for times in oracle.all_times(many, 4):
                self.assertEqual(own.is_paper_against(claim, times), times in broken)
            self.check_both(claim, broken == [])
            kinds[broken == []] += 1
        self.assertGreater(min(kinds.values()), 30)

    def check_both(self, claim, stands):
        """There is a PAPER or, of the first two words, a REASON, never both."""
        paper = own.paper_against(claim)
        self.assertEqual(paper is None, stands)
        if paper is not None:
            self.assertTrue(own.is_paper_against(claim, paper))
        if claim[0] in ("pledge", "hands"):
            reason = own.reason_for(claim)
            self.assertEqual(reason is not None, stands)
            if reason is not None:
                self.assertTrue(own.is_reason_for(claim, reason))
        self.assertEqual(own.first_fallen((claim,)), None if paper is None else (0, paper))

    def test_hands(self):
        kinds = {True: 0, False: 0}
        for wish, most, many in itertools.product((HUSH, LOUD, CALM, ("seen", 0), ("unseen", 0), ("seen", 1)), range(3), range(6)):
            for goods in oracle.all_subsets(TOOLS):
                claim = ("hands", inn, TALK, goods, many, wish, most)
                stands = fewest_hands(inn, TALK, goods, many, wish, most) is None
                self.check_both(claim, stands)
                kinds[stands] += 1
        self.assertGreater(min(kinds.values()), 100)

    def test_alike(self):
        dice = random.Random(242)
        kinds = {True: 0, False: 0}
        while min(kinds.values()) < 15:
            house = risen(some_house(dice))
            feelers = oracle.spots_of_feelers(house)
            if not house[2] or len(feelers) > 4:
                continue
            lines = [line[:3] + (dice.choice((line[3], line[3], dice.randint(0, 3))),) + line[4:] for line in house[2]]
            dice.shuffle(lines)
            other = house[:2] + (tuple(lines),) + house[3:]
            claim = ("alike", house, other)
            papers = []
            for begins in oracle.all_begins(feelers, range(3)):
                one, two = oracle.risen_ticks(house, begins)[2], oracle.risen_ticks(other, begins)[2]
                papers += [(out, begins) for out in range(len(house[3])) if one[out] != two[out]]
                for out in range(len(house[3])):
                    self.assertEqual(own.is_paper_against(claim, (out, begins)), one[out] != two[out])
            if not papers and not own.is_so(claim):
                out, begins = own.paper_against(claim)
                self.assertNotEqual(first_ticks(house, begins, ())[out], first_ticks(other, begins, ())[out])
                papers = [(out, begins)]
            self.check_both(claim, papers == [])
            kinds[papers == []] += 1

    def test_mending(self):
        dice = random.Random(243)
        kinds = {True: 0, False: 0}
        for _ in range(400):
            house = some_house(dice)
            ways = dice.sample(oracle.all_gaps(house[0]), min(4, len(oracle.all_gaps(house[0]))))
            order = tuple((dice.choice(("break", "short")), gap) for gap in ways)
            claim = ("mending", house, order)
            papers = []
            for number, fault in enumerate(order):
                left = tuple(sorted(order[number:]))
                papers += [(number, spot) for spot in heal_takes(house[0], left, fault)]
            for number, spot in itertools.product(range(5), [(0, at) for at in range(4)]):
                self.assertEqual(own.is_paper_against(claim, (number, spot)), (number, spot) in papers)
            self.check_both(claim, papers == [])
            kinds[papers == []] += 1
        self.assertGreater(min(kinds.values()), 20)

    def test_cuts_and_still(self):
        dice = random.Random(244)
        kinds = {word: {True: 0, False: 0} for word in ("cuts", "still")}
        for _ in range(250):
            house = some_house(dice)
            rings = [ring for ring, row in enumerate(house[0]) if any(piece != ("cut",) for piece in row[1])]
            if not house[1] or not rings:
                continue
            ring = dice.choice(rings)
            many = sum(piece != ("cut",) for piece in house[0][ring][1])
            cuts = tuple(sorted(dice.sample(range(many + 1), dice.randint(0, many + 1))))
            keep_of = tuple(dice.randint(0, len(spots)) for spots, _, _ in house[1])
            claim = ("cuts", house, ring, keep_of, cuts)
            cut = cut_house(house, ring, cuts)
            papers = []
            for word, gap in itertools.product(("break", "short"), range(len(cut[0][ring][1]) + 2)):
                there = set(oracle.heard(cut[0], ((word, (ring, gap)),)))
                less = any(len(there & set(spots)) < one for (spots, _, _), one in zip(cut[1], keep_of))
                so = less and gap <= len(cut[0][ring][1])
                self.assertEqual(own.is_paper_against(claim, (word, (ring, gap))), so)
                papers += [gap] * so
            stands = all(one >= other for one, other in zip(kept_by(house, ring, cuts), keep_of))
            self.assertEqual(papers == [], stands)
            self.check_both(claim, stands)
            kinds["cuts"][stands] += 1
            kinds["still"][self.check_still(dice, house)] += 1
        self.assertGreater(min(many for row in kinds.values() for many in row.values()), 20)

    def check_still(self, dice, house):
        feelers = oracle.spots_of_feelers(house)
        places = {spot: house[0][spot[0]][1][spot[1]][1] for spot in feelers}
        works = tuple(sorted(dice.sample(sorted(set(places.values())), dice.randint(0, len(set(places.values()))))))
        offs = tuple(spot for spot in feelers if dice.randint(0, 1))
        claim = ("still", house, works, offs)
        papers = []
        for zone, (spots, knocks, _) in enumerate(house[1]):
            for row in oracle.all_subsets(spots):
                so = len(row) == knocks and all(places[spot] in works and spot not in offs for spot in row)
                self.assertEqual(own.is_paper_against(claim, (zone, row)), so)
                papers += [(zone, row)] * so
        self.check_both(claim, papers == [])
        return papers == []

    def test_more_cuts_hold(self):
        for cuts in oracle.all_subsets(range(6)):
            if own.is_so(("cuts", inn, 0, (1, 1), cuts)):
                for more in range(6):
                    self.assertTrue(own.is_so(("cuts", inn, 0, (1, 1), tuple(sorted(set(cuts) | {more})))))

    def test_holds(self):
        for claim in (WITHIN, SHARP):
            self.assertEqual(own.is_so(claim), holds(claim[1], claim[2]))
