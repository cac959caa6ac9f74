"""Fewest deeds [23]."""

import itertools
import random
import unittest

from secondknock import hands as own
from secondknock.errors import CanNot, NoOut, NoZone, TooMany
from secondknock.plays import stands
from secondknock.ticks import fresh_stand
from tests import oracle
from tests.samples import bare, inn, keep, loft, some_deed, some_house, some_speech
from tests.styles import StyledCase

A, B, C, D = (0, 0), (0, 2), (0, 3), (0, 6)
TALK, TOOLS = ((B, ((1, 4),)),), (("back",), ("off", B), ("quiet",))
HUSH, CALM = ("silent", 0), ("still",)
WISHES = (("sounds", 0), ("silent", 1), ("seen", 0), ("unseen", 1), CALM)


class Wishes(StyledCase):
    def test_is_wish(self):
        self.things(WISHES, [
            ("sounds",), ("sounds", 2), ("silent", -1), ("seen", 2), ("seen", True), ("unseen", None), ("still", 0),
            ["still"], ["seen", 0], ("heard", 0), ("sounds", 0, 0), "still", (("still",),), ("seen", (0,)), ([], 0),
        ], own.is_wish, inn)
        self.things([CALM], [("seen", 0), ("sounds", 0)], own.is_wish, bare)

    def test_meets(self):
        # Behind tick 3 ZONE 0 is knocked and LINE 0 waits; behind 4 OUT 0 sounds; then it is mute.
        waits, loud, mute = [stands((inn, TALK, ((5, ("quiet",)),), 6))[tick] for tick in (3, 4, 5)]
        for stand, wish, told in (
            (waits, ("sounds", 0), False), (waits, ("silent", 0), True), (waits, ("seen", 0), True), (waits, CALM, False),
            (waits, ("unseen", 0), False), (waits, ("unseen", 1), True), (loud, ("sounds", 0), True), (loud, HUSH, False),
            (mute, HUSH, True), (mute, CALM, False), (fresh_stand(inn), CALM, True), (fresh_stand(inn), ("seen", 1), False),
        ):
            self.told(told, own.meets, inn, stand, wish)
        # Seen by another panel alone is no less than seen by some; ("seen", ..) asks the ZONE's own.
        fire = (((0, 0), ((0, None),)), ((1, 0), ((0, None),)))
        apart = stands((loft, fire, ((0, ("part", 0)), (0, ("part", 1))), 1))[0]
        self.told(True, own.meets, loft, apart, ("seen", 0))
        other = apart[:4] + (((None, None), (0, None)),) + (fresh_stand(loft)[5],) + apart[6:7] + ((None, None), False)
        self.told(False, own.meets, loft, other, ("seen", 0))
        self.told(False, own.meets, loft, other, CALM)
        # A LINE that is barred is no bar to being still, but what is seen is.
        self.told(True, own.meets, bare, fresh_stand(bare), CALM)


class Ordinary(StyledCase):
    def test_fewest_hands(self):
        self.told(((0, ("off", B)),), own.fewest_hands, inn, TALK, TOOLS, 6, HUSH, 2)
        self.told((), own.fewest_hands, inn, TALK, TOOLS, 6, ("sounds", 0), 2)
        self.told(None, own.fewest_hands, inn, TALK, TOOLS, 6, ("seen", 1), 2)
        self.told(((2, ("quiet",)),), own.fewest_hands, inn, TALK, TOOLS[2:], 6, HUSH, 2)
        self.told(((3, ("back",)),), own.fewest_hands, inn, TALK, TOOLS[:1], 6, HUSH, 2)
        self.told(((4, ("back",)),), own.fewest_hands, inn, TALK, TOOLS[:1], 6, CALM, 1)
        # many 0, most 0, no goods; what is met at the beginning.
        self.told((), own.fewest_hands, inn, TALK, TOOLS, 0, CALM, 3)
        self.told(None, own.fewest_hands, inn, TALK, TOOLS, 0, ("seen", 0), 3)
        self.told(None, own.fewest_hands, inn, TALK, TOOLS, 6, HUSH, 0)
        self.told(None, own.fewest_hands, inn, TALK, (), 6, HUSH, 3)
        self.told((), own.fewest_hands, inn, (), (), 6, HUSH, 3)

    def test_are_hands(self):
        good = [((0, ("quiet",)), (3, ("quiet",))), ((2, ("quiet",)),), ((0, ("off", B)),), ((3, ("back",)), (5, ("quiet",))),
                ((0, ("off", B)), (1, ("off", B)), (2, ("back",)), (3, ("quiet",)), (4, ("quiet",)), (5, ("back",)))]
        bad = [
            (), ((0, ("quiet",)),), ((3, ("quiet",)), (3, ("back",))), ((3, ("back",)), (2, ("quiet",))), ((6, ("quiet",)),),
            ((2, ("sound",)),), ((0, ("off", C)),), [(2, ("quiet",))], ([2, ("quiet",)],), ((2, ["quiet"]),), (("quiet",),),
            ((True, ("quiet",)), (3, ("quiet",))), ((0, ("off", (False, 2))),), ((-1, ("off", B)),), ((2, "quiet"),), (None,),
        ]
        self.things(good, bad, own.are_hands, inn, TALK, TOOLS, 6, HUSH)
        self.things([()], [((0, ("back",)),)], own.are_hands, inn, TALK, TOOLS, 0, CALM)
        self.things([()], [], own.are_hands, bare, (), (), 3, CALM)

    def test_hands_borne(self):
        for wish, told in ((HUSH, 0), (("seen", 1), 2), (("sounds", 0), None)):
            self.told(told, own.hands_borne, inn, TALK, TOOLS, 6, wish, 2)
        self.told(0, own.hands_borne, inn, TALK, TOOLS, 6, HUSH, 0)
        self.told(3, own.hands_borne, inn, TALK, (), 6, HUSH, 3)
        self.told(None, own.hands_borne, inn, TALK, TOOLS, 0, CALM, 3)

    def test_hands_paper(self):
        args = (inn, TALK, TOOLS[2:], 3, ("sounds", 0), 1)
        paper = own.hands_paper(*args)
        self.told(paper, own.hands_paper, *args)
        # One triple more that fits, and all that it goes on to.
        last = (3, 0, stands((inn, ((C, ((0, None),)),), (), 3))[2])
        good = [paper, paper[::-1], paper + (last,)]
        bad = [
            (), paper * 2, list(paper), paper[1:], paper + ((3, 2, last[2]),), paper + ((4, 0, last[2]),),
            paper + ((2, 0, last[2]),), (list(paper[0]),) + paper[1:], paper + (None,), paper + ((3, 0, None),),
            paper + ((3, 0, last[2], 0),), paper + ((3, False, last[2]),), paper + ((3, 0, last[2][:8] + (0,)),),
            paper + ((3, 0, list(last[2])),), ((False,) + paper[0][1:],) + paper[1:],
            paper + ((3, 1, stands((inn, ((B, ((0, None),)),), (), 4))[3]),),
        ] + [paper[:at] + paper[at + 1:] for at in range(len(paper))]
        self.things(good, bad, own.is_hands_paper, *args)
        self.assertFalse(own.is_hands_paper(inn, TALK, TOOLS[2:], 3, ("silent", 0), 1, paper))
        for more in ((inn, TALK, TOOLS, 6, HUSH, 2), (inn, TALK, (), 0, CALM, 0), (inn, (), TOOLS, 6, CALM, 0)):
            self.raises(CanNot(), own.hands_paper, *more)
            self.told(False, own.is_hands_paper, *more, paper)
        self.told(((0, 2, fresh_stand(inn)),), own.hands_paper, inn, TALK, TOOLS, 0, ("seen", 0), 2)
        self.told(True, own.is_hands_paper, inn, TALK, TOOLS, 0, ("seen", 0), 2, ((0, 2, fresh_stand(inn)),))

    def test_hands_from(self):
        told = stands((inn, TALK, (), 6))
        self.told(((4, ("back",)),), own.hands_from, inn, told[2], TALK, TOOLS, 3, 6, CALM, 2)
        self.told((), own.hands_from, inn, told[5], TALK, TOOLS, 6, 6, ("sounds", 0), 2)
        self.told(None, own.hands_from, inn, told[5], TALK, TOOLS, 6, 6, HUSH, 2)
        self.told(None, own.hands_from, inn, told[2], TALK, TOOLS, 3, 6, CALM, 0)
        self.told(((0, ("off", B)),), own.hands_from, inn, fresh_stand(inn), TALK, TOOLS, 0, 6, HUSH, 2)


class Errors(StyledCase):
    MANY = tuple(sorted([("harm", ("short", (0, at))) for at in range(8)]))

    def test_what_a_wish_names(self):
        for wish, error in (
            (("sounds", 2), NoOut(2)), (("silent", -1), NoOut(-1)), (("seen", 2), NoZone(2)), (("unseen", -1), NoZone(-1))
        ):
            self.raises(error, own.meets, inn, fresh_stand(inn), wish)
            # Ahead of TooMany.
            self.raises(error, own.fewest_hands, inn, TALK, self.MANY, 12, wish, 3)
            self.raises(error, own.are_hands, inn, TALK, self.MANY, 12, wish, None)
            self.raises(error, own.hands_borne, inn, TALK, self.MANY, 12, wish, 3)
            self.raises(error, own.hands_paper, inn, TALK, self.MANY, 12, wish, 3)
            self.raises(error, own.is_hands_paper, inn, TALK, self.MANY, 12, wish, 3, None)
            self.raises(error, own.hands_from, inn, fresh_stand(inn), TALK, self.MANY, 0, 12, wish, 3)

    def test_too_many(self):
        for wish in (CALM, HUSH, ("seen", 1)):
            self.raises(TooMany(), own.fewest_hands, inn, TALK, self.MANY, 12, wish, 3)
            self.raises(TooMany(), own.hands_borne, inn, TALK, self.MANY, 12, wish, 3)
            self.raises(TooMany(), own.hands_paper, inn, TALK, self.MANY, 12, wish, 3)
            self.raises(TooMany(), own.hands_from, inn, fresh_stand(inn), TALK, self.MANY, 0, 12, wish, 3)
        # Not in the two with thing; not from a later tick on.
        self.told(True, own.are_hands, inn, TALK, self.MANY, 12, HUSH, ((1, self.MANY[2]),))
        self.told(False, own.is_hands_paper, inn, TALK, self.MANY, 12, HUSH, 3, ())
        self.told((), own.hands_from, inn, fresh_stand(inn), TALK, self.MANY, 10, 12, CALM, 3)

    def test_the_limit(self):
        """Just 400 triples are none too many."""
        seen = set()
        for house, speech, goods in ((inn, TALK, self.MANY[:3]), (inn, (), self.MANY[:7]), (bare, (), ()), (keep, (), (("off", (0, 0)),))):
            for many, most in itertools.product(range(9), range(4)):
                triples = all_triples(house, speech, goods, many, most)
                if triples > 400:
                    self.assertRaises(TooMany, own.fewest_hands, house, speech, goods, many, CALM, most)
                else:
                    own.fewest_hands(house, speech, goods, many, CALM, most)
                seen.add(triples > 400)
        self.assertEqual(seen, {True, False})


def all_hands(goods, ticks, most):
    for many in range(most + 1):
        for told in itertools.combinations(ticks, many):
            for deeds in itertools.product(goods, repeat=many):
                yield tuple(zip(told, deeds))


def stand_behind(house, speech, hands, many):
    rows = oracle.course_of((house, speech, hands, many))
    return rows[-1]["stand"] if rows else oracle.Course(house).stand()


def triples_of(house, speech, goods, many, most):
    """The least HANDS PAPER but for its last condition: what all HANDS lead to."""
    found = set()
    for hands in all_hands(goods, range(many), most):
        rows = [oracle.Course(house).stand()] + [row["stand"] for row in oracle.course_of((house, speech, hands, many))]
        for tick in range(many + 1):
            found.add((tick, most - sum(when < tick for when, _ in hands), rows[tick]))
    return found


def all_triples(house, speech, goods, many, most):
    """How many there are, one tick after the other, HANDS with one STAND as one."""
    rows = {(most, fresh_stand(house)): ()}
    total = 1
    for tick in range(many):
        behind = {}
        for (left, _), hands in rows.items():
            for deed in (None,) + (tuple(goods) if left else ()):
                more = hands if deed is None else hands + ((tick, deed),)
                stand = stand_behind(house, speech, more, tick + 1)
                behind[(left - (deed is not None), stand)] = more
        rows = behind
        total += len(rows)
        if total > 400:
            break
    return total


def met(house, stand, wish):
    _, _, _, _, seen, lines, _, outs, mute = stand
    if wish[0] in ("sounds", "silent"):
        loud = outs[wish[1]] is not None and not (mute and house[3][wish[1]] == "bell")
        return loud == (wish[0] == "sounds")
    if wish[0] in ("seen", "unseen"):
        panel = house[0][house[1][wish[1]][0][0][0]][0]
        return (seen[panel][wish[1]] is not None) == (wish[0] == "seen")
    quiet = not any(own_line[0] == "waits" for own_line in lines)
    return quiet and all(since is None for row in seen + (outs,) for since in row)


class ForAll(unittest.TestCase):
    def cases(self, seed, many):
        dice = random.Random(seed)
        while many:
            house = some_house(dice)
            if not house[1] or not house[2]:
                continue
            many -= 1
            goods = {some_deed(dice, house) for _ in range(dice.randint(0, 3))} - {None}
            speech = some_speech(dice, house, 6)
            if dice.randint(0, 1):
                # What keeps still, or sets back, while feelers speak for good.
                spots = [spot for spots, _, _ in house[1] for spot in spots]
                goods |= {("off", dice.choice(spots)), ("off", dice.choice(spots)), dice.choice((("back",), ("quiet",)))}
                speech = tuple((spot, ((dice.randint(0, 2), None),)) for spot in sorted(set(spots)))
            yield dice, house, speech, tuple(sorted(goods)), dice.randint(0, 5), dice.randint(0, 2)

    def test_all_hands(self):
        sizes = {}
        for dice, house, speech, goods, many, most in self.cases(231, 130):
            ends = {hands: stand_behind(house, speech, hands, many) for hands in all_hands(goods, range(many), most)}
            triples = triples_of(house, speech, goods, many, most)
            wishes = [("still",)] + [(word, out) for out in range(len(house[3])) for word in ("sounds", "silent")]
            wishes += [(word, zone) for zone in range(len(house[1])) for word in ("seen", "unseen")]
            for wish in wishes:
                args = (house, speech, goods, many, wish)
                good = [hands for hands, stand in ends.items() if met(house, stand, wish)]
                for hands, stand in list(ends.items())[:60]:
                    self.assertEqual(own.meets(house, stand, wish), met(house, stand, wish))
                    self.assertIs(own.are_hands(*args, hands), hands in good)
                if len(triples) > 400:
                    self.assertRaises(TooMany, own.fewest_hands, *args, most)
                    continue
                best = min(good, key=lambda hands: (len(hands), hands), default=None)
                self.assertEqual(own.fewest_hands(*args, most), best)
                borne = most if best is None else len(best) - 1 if best else None
                self.assertEqual(own.hands_borne(*args, most), borne)
                if best is None:
                    paper = own.hands_paper(*args, most)
                    self.assertTrue(triples <= set(paper))
                    self.assertTrue(own.is_hands_paper(*args, most, paper))
                    self.assertTrue(own.is_hands_paper(*args, most, tuple(triples)))
                    for gone in dice.sample(sorted(triples, key=repr), min(4, len(triples))):
                        self.assertFalse(own.is_hands_paper(*args, most, tuple(triples - {gone})))
                else:
                    self.assertRaises(CanNot, own.hands_paper, *args, most)
                    self.assertFalse(own.is_hands_paper(*args, most, tuple(triples)))
                size = None if best is None else len(best)
                sizes[size] = sizes.get(size, 0) + 1
        self.assertGreater(min(sizes[size] for size in (None, 0, 1)), 15)
        self.assertGreater(sizes[2], 2)

    def test_from_each_tick(self):
        some = 0
        for dice, house, speech, goods, many, most in self.cases(232, 100):
            wish = dice.choice([("still",), ("silent", 0), ("sounds", 0), ("unseen", 0)])
            ahead = dice.choice(list(all_hands(goods, range(many), 1)))
            tick = dice.randint(0, many)
            ahead = tuple(pair for pair in ahead if pair[0] < tick)
            stand = stand_behind(house, speech, ahead, tick)
            good = [
                hands for hands in all_hands(goods, range(tick, many), most)
                if met(house, stand_behind(house, speech, ahead + hands, many), wish)
            ]
            best = min(good, key=lambda hands: (len(hands), hands), default=None)
            self.assertEqual(own.hands_from(house, stand, speech, goods, tick, many, wish, most), best)
            some += bool(best)
        self.assertGreater(some, 5)


class Greatest(StyledCase):
    def test_eight_goods(self):
        goods = tuple(sorted((("back",), ("quiet",), ("sound",), ("off", B), ("on", B), ("more", 0), ("more", 1), ("off", A))))
        speech = ((A, ((2, None),)), (B, ((2, None),)))
        # Whatever is told, the triples are counted one by one.
        try:
            told = own.fewest_hands(inn, speech, goods, 6, HUSH, 1)
        except TooMany:
            self.fail("not so many")
        self.assertEqual(len(told), 1)
        self.told(True, own.are_hands, inn, speech, goods, 12, CALM, ((0, ("off", A)), (1, ("off", B))))
        self.told(False, own.are_hands, inn, speech, goods, 12, CALM, ((0, ("off", A)), (1, ("quiet",)), (2, ("back",))))
