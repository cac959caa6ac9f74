"""A Board [26]."""

import random
import unittest

from secondknock.board import Board
from secondknock.errors import NoSpot, NothingDone, Unfit
from secondknock.houses import is_play
from secondknock.plays import stands
from secondknock.ticks import fresh_stand, is_stand
from tests import oracle
from tests.samples import bare, barred, inn, keep, loft, some_deed, some_house, tower
from tests.styles import lists_at

A, B, C, BELL, D = (0, 0), (0, 2), (0, 3), (0, 4), (0, 6)


def looks(board):
    """All that a Board tells, but what depends on a SPOT."""
    return repr((
        board.now(), board.play(), board.stand(), board.sounding(), board.ringing(), board.knocked(),
        [board.ahead(many) for many in (0, 1, 5, 9)],
    ))


class Ordinary(unittest.TestCase):
    def test_nothing_told(self):
        for house in (inn, barred, loft, keep, bare, tower):
            board = Board(house)
            self.assertEqual(board.now(), 0)
            self.assertEqual(board.play(), (house, (), (), 0))
            self.assertEqual(board.stand(), fresh_stand(house))
            self.assertEqual((board.sounding(), board.ringing(), board.knocked()), ((), (), ()))
            self.assertEqual(board.ahead(0), (None,) * len(house[3]))
            self.assertEqual(board.ahead(60), (None,) * len(house[3]))
            self.assertRaises(NothingDone, board.undo)
            self.assertRaises(NothingDone, board.redo)
            for spot in oracle.spots_of_feelers(house):
                self.assertIs(board.feels(spot), False)

    def test_deeds_tell_none(self):
        board = Board(inn)
        self.assertIsNone(board.speak(A))
        self.assertIsNone(board.tell(("quiet",)))
        self.assertIsNone(board.pass_by(60))
        self.assertIsNone(board.hush(A))
        self.assertEqual([board.undo() for _ in range(4)], ["hush", "pass_by", "tell", "speak"])
        self.assertEqual([board.redo() for _ in range(4)], ["speak", "tell", "pass_by", "hush"])

    def test_speak_and_hush(self):
        board = Board(inn)
        board.speak(A)
        self.assertIs(board.feels(A), True)
        self.assertEqual(board.play()[1], ((A, ((0, None),)),))
        # What was to begin with this tick is gone.
        board.hush(A)
        self.assertEqual(board.play()[1], ())
        board.speak(A)
        board.pass_by(3)
        board.hush(A)
        self.assertIs(board.feels(A), False)
        self.assertEqual(board.play()[1], ((A, ((0, 3),)),))
        # What ended with it goes on.
        board.speak(A)
        self.assertEqual(board.play()[1], ((A, ((0, None),)),))
        board.hush(A)
        board.pass_by(1)
        board.speak(A)
        self.assertEqual(board.play()[1], ((A, ((0, 3), (4, None))),))
        # Gone again, the stretch ahead of it stays as it was.
        board.hush(A)
        self.assertEqual(board.play()[1], ((A, ((0, 3),)),))
        board.speak(D)
        board.speak(B)
        self.assertEqual([spot for spot, _ in board.play()[1]], [A, B, D])

    def test_what_is_told_for_the_coming_tick(self):
        board = Board(inn)
        board.speak(A)
        board.tell(("off", B))
        # In play, ahead and feels alone.
        self.assertEqual((board.stand(), board.knocked(), board.sounding()), (fresh_stand(inn), (), ()))
        self.assertEqual(board.play()[1:], (((A, ((0, None),)),), ((0, ("off", B)),), 0))
        self.assertEqual((board.ahead(0), board.ahead(3), board.ahead(4)), ((None, None), (None, None), (3, None)))
        board.pass_by(4)
        self.assertEqual((board.sounding(), board.ringing(), board.knocked()), ((0,), (BELL,), (0,)))
        board.tell(("back",))
        board.tell(("harm", ("short", (0, 4))))
        self.assertEqual((board.sounding(), board.ringing(), board.knocked()), ((0,), (BELL,), (0,)))
        self.assertEqual((board.ahead(0), board.ahead(1), board.ahead(4)), ((3, None), (None, None), (7, None)))
        board.hush(A)
        self.assertEqual((board.ahead(0), board.ahead(60)), ((3, None), (None, None)))
        board.pass_by(1)
        self.assertEqual((board.sounding(), board.ringing(), board.knocked(), board.now()), ((), (), (), 5))

    def test_quiet(self):
        board = Board(inn)
        board.speak(A)
        board.pass_by(4)
        board.tell(("quiet",))
        board.pass_by(1)
        self.assertEqual((board.sounding(), board.ringing(), board.ahead(3)), ((), (), (3, None)))

    def test_undo_and_redo(self):
        board = Board(barred)
        states = [looks(board)]
        steps = (
            ("speak", lambda: board.speak(A)), ("tell", lambda: board.tell(("off", C))), ("pass_by", lambda: board.pass_by(2)),
            ("hush", lambda: board.hush(A)), ("pass_by", lambda: board.pass_by(7)),
        )
        for _, step in steps:
            step()
            states.append(looks(board))
        names = [name for name, _ in steps]
        for at in range(5, 0, -1):
            self.assertEqual(board.undo(), names[at - 1])
            self.assertEqual(looks(board), states[at - 1])
        self.assertRaises(NothingDone, board.undo)
        for at in range(5):
            self.assertEqual(board.redo(), names[at])
            self.assertEqual(looks(board), states[at + 1])
        self.assertRaises(NothingDone, board.redo)
        # undo behind redo; redo behind a new deed.
        self.assertEqual((board.undo(), board.undo(), board.redo(), board.undo()), ("pass_by", "hush", "hush", "hush"))
        board.tell(("quiet",))
        self.assertRaises(NothingDone, board.redo)
        self.assertEqual((board.undo(), board.redo(), board.undo(), board.undo()), ("tell", "tell", "tell", "pass_by"))

    def test_what_raises_leaves_all(self):
        board = Board(inn)
        board.speak(A)
        board.pass_by(2)
        board.tell(("quiet",))
        board.undo()
        held = looks(board)
        for error, deed in (
            (Unfit, lambda: board.speak(A)), (Unfit, lambda: board.hush(B)), (NoSpot, lambda: board.speak(BELL)),
            (NoSpot, lambda: board.hush((0, 1))), (NoSpot, lambda: board.feels((9, 9))), (Unfit, lambda: board.tell(("part", 0))),
        ):
            self.assertRaises(error, deed)
            self.assertEqual(looks(board), held)
        # Looks and what raised are no deeds: what is taken back can be done again.
        self.assertEqual(board.redo(), "tell")

    def test_errors(self):
        board = Board(inn)
        for spot in (BELL, (0, 1), (0, 7), (1, 0), (-1, 0), (0, -1)):
            for deed in (board.speak, board.hush, board.feels):
                for told in (spot, list(spot)):
                    with self.assertRaises(NoSpot) as caught:
                        deed(told)
                    self.assertEqual(repr(vars(caught.exception)), repr({"spot": spot}))
        for deed in (
            ("part", 0), ("off", BELL), ("off", (0, 1)), ("more", 2), ("harm", ("break", (0, 8))), ("quiet", 0), ("loud",), "quiet",
            None, (), 0, ("back",) * 2, ("off",), ("more", True), ("off", B, C), ("speak", A), (("quiet",),), True,
        ):
            for told in (deed, lists_at(deed, None)):
                self.assertRaises(Unfit, board.tell, told)
        self.assertEqual(board.play(), (inn, (), (), 0))
        # Passed over later on, but a DEED of the HOUSE.
        board.tell(("on", B))
        board.tell(("more", 1))
        board.pass_by(1)
        self.assertEqual(board.stand(), fresh_stand(inn))
        Board(loft).tell(("part", 1))

    def test_its_own_copy(self):
        house = lists_at(inn, None)
        kept = repr(house)
        board = Board(house=house)
        spot, deed = [0, 0], ["harm", ["short", [0, 4]]]
        board.speak(spot=spot)
        board.tell(deed=deed)
        board.pass_by(many=3)
        self.assertEqual(repr(house), kept)
        spot[1] = 4
        deed[1][1][1] = 5
        del house[1][:]
        self.assertEqual(board.play(), (inn, ((A, ((0, None),)),), ((0, ("harm", ("short", (0, 4)))),), 3))
        self.assertEqual(repr(board.play()), repr((inn, ((A, ((0, None),)),), ((0, ("harm", ("short", (0, 4)))),), 3)))
        self.assertIs(board.feels(spot=[0, 0]), True)
        self.assertEqual(board.ahead(many=1), (3, None))

    def test_twin(self):
        board = Board(inn)
        board.speak(A)
        board.pass_by(2)
        board.speak(B)
        board.undo()
        mate = board.twin()
        self.assertIsNot(mate, board)
        self.assertIs(type(mate), Board)
        self.assertTrue(mate == board)
        # All that can be taken back and done again, each for itself.
        self.assertEqual(mate.redo(), "speak")
        self.assertFalse(mate == board)
        self.assertTrue(mate != board)
        self.assertEqual((mate.undo(), mate.undo(), mate.undo()), ("speak", "pass_by", "speak"))
        self.assertRaises(NothingDone, mate.undo)
        self.assertEqual((board.now(), board.redo()), (2, "speak"))
        mate.tell(("quiet",))
        self.assertEqual((board.undo(), board.undo()), ("speak", "pass_by"))
        self.assertEqual(mate.play(), (inn, (), ((0, ("quiet",)),), 0))
        self.assertEqual(board.play(), (inn, ((A, ((0, None),)),), (), 0))

    def test_equal(self):
        one, other = Board(inn), Board(lists_at(inn, None))
        self.assertTrue(one == other)
        self.assertIs(one == other, True)
        self.assertIs(one != other, False)
        one.speak(A)
        self.assertFalse(one == other)
        other.speak(A)
        self.assertTrue(one == other)
        # Told in another order, with something taken back: the PLAY alone counts.
        one.speak(B)
        one.undo()
        self.assertTrue(one == other)
        one.pass_by(2)
        other.pass_by(1)
        self.assertFalse(one == other)
        other.pass_by(1)
        self.assertTrue(one == other)
        self.assertFalse(Board(inn) == Board(barred))
        for thing in (None, 0, "", (), [], Board(inn).play(), inn, Board, object(), True):
            self.assertIs(Board(inn) == thing, False)
            self.assertIs(Board(inn) != thing, True)
            self.assertIs(thing == Board(inn), False)


class ForAll(unittest.TestCase):
    """Boards by a seed beside the PLAYS that they tell, tick by tick."""

    def test_beside_its_play(self):
        dice = random.Random(261)
        rung = 0
        for _ in range(150):
            house = some_house(dice)
            feelers = oracle.spots_of_feelers(house)
            board, speech, deeds, past = Board(house), {}, [], []
            while board.now() < 14:
                tick = board.now()
                for _ in range(dice.randint(0, 3)):
                    kind = dice.randint(0, 2)
                    if kind and feelers:
                        spot = dice.choice(feelers)
                        # For each tick who is to speak: from this one on turned round.
                        speaks = speech.get(spot, {}).get("now", False)
                        self.assertIs(board.feels(spot), speaks)
                        self.assertRaises(Unfit, board.hush if not speaks else board.speak, spot)
                        (board.hush if speaks else board.speak)(spot)
                        speech.setdefault(spot, {})["now"] = not speaks
                    else:
                        deed = some_deed(dice, house)
                        if deed is not None:
                            board.tell(deed)
                            deeds.append((tick, deed))
                ahead = board.ahead(3)
                many = dice.randint(1, 4)
                for at in range(tick, tick + many):
                    past.append(tuple(spot for spot in feelers if speech.get(spot, {}).get("now", False)))
                board.pass_by(many)
                if many == 3:
                    self.assertEqual(board.ahead(0), ahead)
                rung += self.check(board, house, past, deeds)
        self.assertGreater(rung, 30)

    def check(self, board, house, past, deeds):
        """The Board against who was told to speak at each tick, and the DEEDS."""
        course = oracle.Course(house)
        for tick, spots in enumerate(past):
            course.go([deed for when, deed in deeds if when == tick], spots, tick)
        self.assertEqual(board.now(), len(past))
        self.assertEqual(board.stand(), course.stand())
        self.assertEqual((board.sounding(), board.ringing()), (course.sounds(), course.rings_now()))
        zones = range(len(house[1]))
        self.assertEqual(board.knocked(), tuple(zone for zone in zones if (course.panel(zone), zone) in course.seen))
        play = board.play()
        self.assertTrue(is_play(play))
        self.assertTrue(is_stand(house, board.stand()))
        self.assertEqual(play[2:], (tuple(deeds), len(past)))
        self.assertEqual(stands(play)[-1], board.stand())
        for tick, spots in enumerate(past):
            self.assertEqual(oracle.speaks(play[1], tick), spots)
        # Who still speaks has None.
        for spot, stretches in play[1]:
            self.assertEqual(stretches[-1][1] is None, board.feels(spot))
        return bool(board.ringing())

    def test_undo_and_redo_at_any_time(self):
        dice = random.Random(262)
        backs = agains = 0
        for _ in range(60):
            house = some_house(dice)
            feelers = oracle.spots_of_feelers(house)
            board, states, at, names = Board(house), [repr(Board(house).play())], 0, []
            for _ in range(25):
                kind = dice.randint(0, 6)
                if kind == 0:
                    if at:
                        at -= 1
                        self.assertEqual(board.undo(), names[at])
                        backs += 1
                    else:
                        self.assertRaises(NothingDone, board.undo)
                elif kind == 1:
                    if at < len(names):
                        self.assertEqual(board.redo(), names[at])
                        at += 1
                        agains += 1
                    else:
                        self.assertRaises(NothingDone, board.redo)
                else:
                    name = self.some_deed(dice, board, feelers, house)
                    if name:
                        names, states = names[:at] + [name], states[:at + 1] + [repr(board.play())]
                        at += 1
                self.assertEqual(repr(board.play()), states[at])
                self.assertTrue(board.twin() == board)
        self.assertGreater(min(backs, agains), 30)

    def some_deed(self, dice, board, feelers, house):
        """Does some deed, or one that raises; tells its name, None for none."""
        kind = dice.choice(("speak", "hush", "tell", "pass_by"))
        named = some_deed(dice, house) if kind == "tell" else dice.randint(1, 3) if kind == "pass_by" else dice.choice(feelers + (BELL,))
        try:
            getattr(board, kind)(named)
            return kind
        except (Unfit, NoSpot):
            return None


class Greatest(unittest.TestCase):
    def test_two_hundred_ticks_and_thirty_deeds(self):
        board = Board(keep)
        deeds = [("off", (0, 0)), ("quiet",), ("part", 1), ("harm", ("short", (1, 3))), ("back",), ("on", (0, 0))] * 5
        spots = oracle.spots_of_feelers(keep)
        for at, deed in enumerate(deeds):
            board.tell(deed)
            spot = spots[at % len(spots)]
            (board.hush if board.feels(spot) else board.speak)(spot)
            board.pass_by(6)
        board.pass_by(20)
        self.assertEqual(board.now(), 200)
        self.assertEqual(board.stand(), oracle.course_of(board.play())[-1]["stand"])
        self.assertEqual(len(board.ahead(60)), 3)
        for _ in range(91):
            board.undo()
        self.assertTrue(board == Board(keep))
        for _ in range(91):
            board.redo()
        self.assertEqual(board.now(), 200)
