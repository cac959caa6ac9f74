"""Houses, speeches, deeds, plays [6]."""

import itertools
import random
import unittest

from secondknock import houses as own
from secondknock.errors import NoOut, NoPanel, NoRing, NoSpot, NoZone, Unfit
from secondknock.plays import stands
from tests import oracle
from tests.samples import bare, barred, crack, hall, inn, keep, loft, short, some_house, some_play
from tests.styles import StyledCase

SPEECH = (((0, 2), ((1, 4), (6, None))),)
STEPS = ((0, ("off", (0, 3))), (2, ("harm", ("break", (0, 2)))), (2, ("more", 0)))
PLAY = (inn, SPEECH, STEPS, 9)


def changed(row, place, value):
    """The tuple with this value at this place; the place may be several, from without."""
    first, *rest = place if isinstance(place, tuple) else (place,)
    return row[:first] + (changed(row[first], tuple(rest), value) if rest else value,) + row[first + 1:]


class Things(StyledCase):
    def test_is_house(self):
        good = [inn, barred, loft, keep, bare, changed(inn, 4, 3), changed(inn, 1, ())[:2] + ((), (), 1)]
        good[-1] = (((0, (("feel", 0),)),), (), (), (), 2)
        good += [changed(inn, (1, 0, 2), 10 ** 40), changed(inn, (2, 0, 3), 10 ** 40), changed(inn, (2, 0, 6), 999)]
        good += [((hall,) * 50, inn[1] * 40, inn[2] * 40, inn[3] * 40, 1)]
        bad = [
            changed(inn, 4, 0), changed(inn, 4, 4), changed(inn, 4, True), changed(inn, 4, None), inn[:4], inn + (1,),
            list(inn), changed(inn, 0, ()), changed(inn, 0, [hall]), changed(inn, 0, hall), changed(inn, 0, (None,)),
            changed(inn, (0, 0, 0), 1), changed(inn, (0, 0, 1, 4), ("bell", 1)), changed(inn, (0, 0, 1, 4), ("bell", 2)),
            changed(inn, (0, 0, 1), ()), changed(inn, 1, list(inn[1])), changed(inn, 1, None),
            changed(inn, 2, list(inn[2])), changed(inn, 2, None), changed(inn, 3, ["bell", "door"]),
            changed(inn, 3, ("door", "door")), changed(inn, 3, ("bell", "gate")), changed(inn, 3, ("bell", None)),
            changed(inn, 3, ("bell",)), changed(inn, 3, "bell"), ((), (), (), (), 1), changed(loft, (0, 1, 0), 2),
            changed(loft, (0, 1), (0, ())), changed(loft, (0, 1, 1, 1), ("bell", 1)),
        ]
        zones = [
            (((0, 1),), 1, None), (((0, 4),), 1, None), (((0, 9),), 1, None), (((1, 0),), 1, None), ((), 1, None),
            (((0, 2), (0, 0)), 1, None), (((0, 2), (0, 2)), 1, None), (((0, 2),), 2, None), (((0, 2),), 0, None),
            (((0, 2), (0, 3), (0, 6)), 3, None), (((0, 2),), True, None), (((0, 2),), 1, -1), (((0, 2),), 1, False),
            (((0, 2),), 1, "0"), (((0, 2),), 1), (((0, 2),), 1, None, None), ([(0, 2)], 1, None), ((0, 2), 1, None),
            (((0, 2),), None, None), [((0, 2),), 1, None], (((0, 2, 0),), 1, None), None, (((0, 2),), 1, (None,)),
        ]
        bad += [changed(inn, (1, 0), zone) for zone in zones]
        bad += [changed(loft, (1, 0, 0), ((0, 0), (1, 0)))]
        line = inn[2][0]
        for place, values in enumerate((
            (1, -1, None, True), ("each", None, ("any",)), ((), (2,), (1, 0), (0, 0), [0], 0, (-1,), (True,), None),
            (-1, None, True, "3"), ((2,), [0], None, (1, 0), (False,)), (2, -1, None, True, "0"), (-1, None, False),
            (2, -1, None, True, "0"),
        )):
            bad += [changed(inn, (2, 0, place), value) for value in values]
        bad += [changed(inn, (2, 0), line[:7]), changed(inn, (2, 0), line + (0,)), changed(inn, (2, 0), list(line))]
        self.things(good, bad, own.is_house)

    def test_is_speech(self):
        good = [
            (), SPEECH, (((0, 0), ((0, 1),)), ((0, 6), ((0, None),))), (((0, 3), ((0, 1), (2, 3), (4, 9))),),
            (((0, 0), ((10 ** 30, None),)),),
        ]
        bad = [
            (((0, 1), ((0, 1),)),), (((0, 4), ((0, 1),)),), (((0, 7), ((0, 1),)),), (((1, 0), ((0, 1),)),),
            (((0, 0), ()),), (((0, 0), ((1, 1),)),), (((0, 0), ((2, 1),)),), (((0, 0), ((0, 1), (1, 2))),),
            (((0, 0), ((0, 3), (2, 5))),), (((0, 0), ((0, None), (5, 6))),), (((0, 0), ((0, None), (5, None))),),
            (((0, 2), ((0, 1),)), ((0, 0), ((0, 1),))), (((0, 0), ((0, 1),)), ((0, 0), ((3, None),))),
            (((0, 0), ((None, 1),)),), (((0, 0), ((-1, 1),)),), (((0, 0), ((True, 2),)),), (((0, 0), ((0, True),)),),
            (((0, 0), (0, 1)),), (((0, 0), [(0, 1)]),), (((0, 0), ([0, 1],)),), [((0, 0), ((0, 1),))],
            ([(0, 0), ((0, 1),)],), (([0, 0], ((0, 1),)),), (((0, 0),),), (((0, 0), ((0, 1),), 0),), (((0, 0), 5),),
            (((0, 0), ((0, 1, 2),)),), (((0, 0), ((0,),)),), ((None, ((0, 1),)),), (((0, 0), ((0, 1), (3, 3))),),
            (((0, 0), ((0, 1), (2, 3), (3, 4))),), (((0, 0), ((0, 1),)), ((0, 2), ((1, 1),))),
        ]
        self.things(good, bad, own.is_speech, inn)
        self.things([()], good[1:], own.is_speech, bare)

    def test_are_begins(self):
        good = [(), (((0, 0), 0),), (((0, 0), 5), ((0, 2), 1), ((0, 6), 10 ** 30))]
        bad = [
            (((0, 1), 0),), (((0, 0), -1),), (((0, 0), None),), (((0, 0), True),), (((0, 2), 0), ((0, 0), 0)),
            (((0, 0), 0), ((0, 0), 1)), [((0, 0), 0)], ([(0, 0), 0],), (([0, 0], 0),), (((0, 0),),), (((0, 0), 0, 0),),
            (((1, 0), 0),), ((0, 0),), SPEECH,
        ]
        self.things(good, bad, own.are_begins, inn)

    def test_is_deed(self):
        good = [
            ("quiet",), ("sound",), ("back",), ("off", (0, 0)), ("on", (1, 0)), ("more", 0), ("more", 1),
            ("harm", short), ("heal", crack), ("harm", ("break", (1, 2))), ("part", 0), ("join", 1),
        ]
        bad = [
            ("off",), ("quiet", 0), ("off", (0, 1)), ("on", (1, 1)), ("off", (0, 7)), ("off", [0, 0]), ("more", 2),
            ("more", -1), ("more", True), ("more", None), ("harm", ("break", (0, 8))), ("heal", ("gap", (0, 1))),
            ("harm", ["break", (0, 1)]), ("harm", None), ("part", 2), ("join", -1), ("part", False), ("part", None),
            ["quiet"], ["off", (0, 0)], ("off", (0, 0), 0), "quiet", ("speak", (0, 0)), ("stop", (0, 0)), (["back"],),
            (None,), (("back",),), (0, ("back",)), ("join", (0, 1)), ("on", 0),
        ]
        self.things(good, bad, own.is_deed, loft)
        for house, links in ((inn, 0), (loft, 2), (keep, 3)):
            for link in range(5):
                self.told(link < links, own.is_deed, house, ("part", link))
                self.told(link < links, own.is_deed, house, ("join", link))

    def test_is_play(self):
        good = [PLAY, (inn, (), (), 0), (bare, (), (), 10 ** 9), (loft, (), ((3, ("part", 1)), (3, ("back",))), 2)]
        good += [(inn, (), ((10 ** 9, ("back",)),), 3)]
        bad = [
            PLAY[:3], PLAY + (0,), list(PLAY), changed(PLAY, 0, bare), changed(PLAY, 0, None), changed(PLAY, 3, -1),
            changed(PLAY, 3, None), changed(PLAY, 3, True), changed(PLAY, 2, STEPS[::-1]), changed(PLAY, 2, list(STEPS)),
            changed(PLAY, (2, 0), list(STEPS[0])), changed(PLAY, (2, 0), (-1, ("back",))),
            changed(PLAY, (2, 0), (True, ("back",))), changed(PLAY, (2, 0), ("back",)), changed(PLAY, (2, 0), (0, None)),
            changed(PLAY, (2, 0), (0, ("part", 0))), changed(PLAY, (2, 0), (0, ("back",), 0)), changed(PLAY, 1, None),
            changed(PLAY, 1, (((0, 1), ((0, 1),)),)), changed(PLAY, (0, 4), 4), changed(PLAY, 2, None),
            changed(PLAY, (2, 0), (None, ("back",))), changed(PLAY, 0, list(inn)),
            changed(PLAY, 2, ((1, ("back",)), (0, ("back",)))),
        ]
        self.things(good, bad, own.is_play)


class Looks(StyledCase):
    def test_pieces(self):
        self.told(("cut",), own.piece_at, inn, (0, 5))
        self.told(("bell", 0), own.piece_at, loft, (1, 1))
        self.told(((0, 0), (0, 3), (1, 0), (1, 3), (3, 0), (3, 1)), own.feelers, keep)
        self.told(((0, 1), (1, 4)), own.bells, keep)
        self.told(((0, 2), (1, 1), (1, 2), (2, 0)), own.cuts, keep)
        self.told((), own.feelers, bare)
        self.told((), own.bells, bare)
        self.told(((0, 0),), own.cuts, bare)
        self.told(((0, 0), (0, 1)), own.gaps, bare)
        for house in (inn, loft, keep):
            self.told(tuple(oracle.all_gaps(house[0])), own.gaps, house)

    def test_zones_and_panels(self):
        self.told((0,), own.zones_at, inn, (0, 0))
        self.told((), own.zones_at, loft, (0, 2))
        self.told([0, 1, 1], lambda house: [own.panel_of(house, zone) for zone in (0, 1, 1)], loft)
        self.told([2, 0, 1], lambda house: [own.panel_of(house, zone) for zone in range(3)], keep)
        self.told(((1,), (1,), (0, 3)), own.on_panel, keep, 0)
        self.told(((2, 3), (2,), (1,)), own.on_panel, keep, 1)
        self.told(((0,), (0,), (2,)), own.on_panel, keep, 2)
        self.told(((0,), (), ()), own.on_panel, bare, 0)

    def test_outs(self):
        self.told((0, 2), own.lines_to, keep, 1)
        self.told((0, 1, 2), own.callers, keep, 1)
        self.told((1, 2), own.barrers, keep, 1)
        self.told((), own.barrers, keep, 2)
        self.told((), own.lines_to, changed(inn, 2, ()), 0)
        self.told((), own.callers, changed(inn, 2, ()), 0)

    def test_rises_and_one_mind(self):
        for house, rises, one_mind in (
            (inn, True, True), (barred, False, True), (loft, False, True), (keep, False, False), (bare, True, True),
            (changed(inn, (1, 0, 2), 0), False, True), (changed(inn, (2, 0, 4), (0,)), False, False),
            (changed(inn, (2, 0, 4), (1,)), False, True), (changed(loft, (2, 1, 4), ()), False, True),
        ):
            self.told(rises, own.rises, house)
            self.told(one_mind, own.one_mind, house)
        # What one LINE of an OUT calls by, another one of the same OUT may bar it by.
        two = changed(changed(inn, (2, 0, 4), (1,)), (2, 1, 5), 0)
        self.told(False, own.one_mind, two)

    def test_errors(self):
        for spot in ((0, 7), (1, 0), (0, -1), (-1, 0)):
            self.raises(NoSpot(spot), own.piece_at, inn, spot)
            self.raises(NoSpot(spot), own.zones_at, inn, spot)
            self.raises(NoSpot(spot), own.spot_anew, inn, (0, 0), spot)
        self.raises(NoSpot((0, 1)), own.zones_at, inn, (0, 1))
        self.raises(NoSpot((0, 4)), own.zones_at, inn, (0, 4))
        for number in (2, -1):
            self.raises(NoZone(number), own.panel_of, inn, number)
            self.raises(NoOut(number), own.lines_to, inn, number)
            self.raises(NoOut(number), own.callers, inn, number)
            self.raises(NoOut(number), own.barrers, inn, number)
            self.raises(NoPanel(number), own.on_panel, loft, number)
            self.raises(NoRing(number), own.turned_house, loft, number)
            self.raises(NoRing(number), own.turned_play, (loft, (), (), 3), number)
        self.raises(NoPanel(1), own.on_panel, inn, 1)
        # As many ZONES, LINES, OUTS as there are, and no other ones.
        self.raises(NoZone(3), own.panel_of, keep, 3)
        self.raises(NoOut(3), own.lines_to, keep, 3)
        self.raises(NoZone(0), own.panel_of, bare, 0)
        self.raises(NoRing(1), own.turned_house, inn, 1)


class Anew(StyledCase):
    ORDERS = ((1, 0), (1, 0), (1, 0), (1, 0))

    def test_loft_anew(self):
        told = (
            ((1, (("feel", 3), ("bell", 1))), (0, hall[1][:4] + (("bell", 1),) + hall[1][5:])),
            ((((0, 0),), 1, 2), (((1, 0),), 1, None)),
            ((1, "any", (0,), 2, (1,), 0, 0, 0), (0, "all", (0, 1), 0, (), 1, 0, 0)),
            ("door", "bell"),
            2,
        )
        self.told(told, own.anew, loft, *self.ORDERS)
        self.told((0, 0), own.spot_anew, loft, (1, 0), (1, 0))
        self.told((1, 6), own.spot_anew, loft, (1, 0), (0, 6))
        deeds = ((1, ("more", 1)), (1, ("harm", short)), (2, ("part", 0)), (2, ("off", (1, 0))), (2, ("quiet",)))
        speech = (((0, 0), ((0, None),)), ((1, 0), ((2, 3),)))
        play = (
            told,
            (((0, 0), ((2, 3),)), ((1, 0), ((0, None),))),
            ((1, ("more", 0)), (1, ("harm", ("short", (1, 4)))), (2, ("part", 0)), (2, ("off", (0, 0))), (2, ("quiet",))),
            7,
        )
        self.told(play, own.play_anew, (loft, speech, deeds, 7), *self.ORDERS)

    def test_three_rings_anew(self):
        told = own.anew(keep, (2, 3, 0, 1), (1, 2, 0), (3, 1, 0, 2), (2, 0, 1))
        self.assertTrue(own.is_house(told))
        self.assertEqual(told[0][2], (2, (("feel", 4), ("bell", 2), ("cut",), ("feel", 0))))
        self.assertEqual(told[1], ((((3, 0), (3, 3)), 2, 0), (((1, 0), (1, 1)), 1, None), (((2, 0), (2, 3)), 2, 3)))
        self.assertEqual(told[2][3], (2, "any", (0,), 4, (1,), 2, 2, 1))
        self.assertEqual(told[3], ("door", "door", "bell"))
        self.told(told, own.anew, keep, (2, 3, 0, 1), (1, 2, 0), (3, 1, 0, 2), (2, 0, 1))

    def test_without_zones(self):
        self.told(bare, own.anew, bare, (0,), (), (), ())

    def test_unfit_orders(self):
        good = ((0, 1), (0, 1), (0, 1), (0, 1))
        play = (loft, (), (), 1)
        for place in range(4):
            for order in ((0,), (), (0, 0), (1, 2), (0, 1, 2), (-1, 0), (0, 1, 1)):
                orders = good[:place] + (order,) + good[place + 1:]
                self.raises(Unfit(), own.anew, loft, *orders)
                self.raises(Unfit(), own.play_anew, play, *orders)
        self.raises(Unfit(), own.spot_anew, loft, (0,), (0, 0))
        self.raises(Unfit(), own.spot_anew, loft, (0, 2), (0, 0))
        self.raises(NoSpot((0, 9)), own.spot_anew, loft, (0, 2), (0, 9))


class Turned(StyledCase):
    def test_turned(self):
        told = own.turned_house(keep, 0)
        self.assertEqual(told[0][0], (2, (("feel", 0), ("cut",), ("bell", 1), ("feel", 4))))
        self.assertEqual(told[1:], keep[1:])
        self.told(told, own.turned_house, keep, 0)
        uneven = (((0, (("feel", 0), ("feel", 1), ("bell", 0))),), ((((0, 0), (0, 1)), 2, 1),), (), ("bell",), 1)
        self.told(
            (((0, (("bell", 0), ("feel", 1), ("feel", 0))),), ((((0, 1), (0, 2)), 2, 1),), (), ("bell",), 1),
            own.turned_house, uneven, 0,
        )
        self.told(bare, own.turned_house, bare, 0)

    def test_gaps_and_spots_of_a_play(self):
        deeds = ((0, ("harm", ("short", (0, 0)))), (0, ("heal", ("short", (0, 7)))), (1, ("on", (0, 6))))
        turned = ((0, ("harm", ("short", (0, 7)))), (0, ("heal", ("short", (0, 0)))), (1, ("on", (0, 0))))
        speech = (((0, 0), ((1, 2),)), ((0, 3), ((4, None),)), ((1, 0), ((0, 5),)))
        led = (((0, 3), ((4, None),)), ((0, 6), ((1, 2),)), ((1, 0), ((0, 5),)))
        self.told((own.turned_house(loft, 0), led, turned, 5), own.turned_play, (loft, speech, deeds, 5), 0)


class ForAll(unittest.TestCase):
    """Named anew, or with a RING turned, all that comes is the same, named so."""

    def orders(self, dice, house):
        return [tuple(dice.sample(range(len(row)), len(row))) for row in house[:4]]

    def test_things_by_a_seed(self):
        dice = random.Random(1)
        for _ in range(200):
            self.assertTrue(own.is_house(some_house(dice)))
            play = some_play(dice)
            self.assertTrue(own.is_play(play))

    def test_anew(self):
        dice = random.Random(2)
        for _ in range(300):
            play = some_play(dice, 12)
            house = play[0]
            rings, zones, lines, outs = self.orders(dice, house)
            told = own.play_anew(play, rings, zones, lines, outs)
            self.assertTrue(own.is_play(told))
            self.assertEqual(told[0], own.anew(house, rings, zones, lines, outs))
            back = [tuple(order.index(number) for number in range(len(order))) for order in (rings, zones, lines, outs)]
            self.assertEqual(own.play_anew(told, *back), play)
            for one, other in zip(stands(play), stands(told)):
                self.assertEqual([[row[zone] for zone in zones] for row in one[4]], [list(row) for row in other[4]])
                self.assertEqual([one[5][line] for line in lines], list(other[5]))
                self.assertEqual([one[7][out] for out in outs], list(other[7]))
                self.assertEqual(one[8], other[8])
                self.assertEqual(
                    sorted((own.spot_anew(house, rings, spot), tick) for spot, tick in one[3]), list(other[3]),
                )

    def test_turned(self):
        dice = random.Random(3)
        for _ in range(300):
            play = some_play(dice, 12)
            ring = dice.randrange(len(play[0][0]))
            told = own.turned_play(play, ring)
            self.assertTrue(own.is_play(told))
            self.assertEqual(own.turned_play(told, ring), play)
            self.assertEqual([row[4:] for row in stands(told)], [row[4:] for row in stands(play)])

    def test_all_orders_of_a_small_house(self):
        for orders in itertools.product(*[itertools.permutations(range(2)) for _ in range(4)]):
            told = own.anew(loft, *orders)
            self.assertTrue(own.is_house(told))
            self.assertEqual(own.anew(told, *orders), loft)
