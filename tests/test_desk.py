"""A desk [27]."""

import random
import unittest

from secondknock import desk as own
from secondknock.board import Board
from secondknock.errors import BadLine, NoSpot, NothingDone, Unfit
from secondknock.texts import deed_name, play_text, read_play
from tests import oracle
from tests.samples import bare, barred, inn, keep, loft, some_deed, some_house
from tests.styles import StyledCase

LONG = "9" * 1000
GOOD = (
    "speak 0.0", "hush 12.3", "feels 0." + LONG, "tell off 0.3", "tell quiet", "tell harm break 0.1", "tell heal short 9.9", "tell more 7",
    "tell part 0", "tell join " + LONG, "tell back", "pass 1", "pass 60", "undo", "redo", "now", "sounding", "knocked", "ringing", "ahead 0",
    "ahead 60", "play",
)
BAD = (
    "", " ", "pass 0", "pass 61", "pass 01", "pass", "pass ", "pass  1", "pass -1", "pass 1 ", "pass_by 1", "ahead", "ahead 61", "ahead 00",
    "ahead -", "ahead " + LONG, "speak 0", "speak", "speak 0.00", "speak 0.0 ", " speak 0.0", "speak  0.0", "speak 0.0 0.2", "hush", "feels 0,0",
    "tell", "tell ", "tell off", "tell off 0", "tell 3 off 0.3", "tell  back", "tell back ", "tell speak 0.0", "undo ", "undo 1", "now ", "Now",
    "now\n", "now\nnow", "play 1", "look", "sounding 0", "stand", "twin", "\n", "redo\t", "pass \u0661", "pass 1\u00b2", "speak \u00b2.0", "pass " + LONG,
)


class Requests(StyledCase):
    def test_is_request(self):
        # Figures without end, too: it is of any numbers.
        self.things(GOOD + ("speak 0." + "7" * 6000, "tell more " + "1" * 6000), BAD + ("pass " + "7" * 6000, None, ("now",), ["now"]), own.is_request)

    def test_each_request(self):
        for text, told in (
            ("now", ["0"]), ("now\npass 3\nnow\npass 60\nnow", ["0", "done", "3", "done", "63"]),
            ("speak 0.0\nfeels 0.0\nhush 0.0\nfeels 0.0", ["done", "yes", "done", "no"]),
            ("ahead 0\nspeak 0.0\nahead 3\nahead 4\npass 4\nahead 0", ["- -", "done", "- -", "3 -", "done", "3 -"]),
            ("speak 0.2\nspeak 0.3\npass 5\nsounding\nknocked\nringing", ["done"] * 3 + ["0 1", "0 1", "0.4"]),
            ("speak 0.2\npass 5\ntell quiet\nsounding\npass 1\nsounding\nringing", ["done"] * 3 + ["0", "done", "-", "-"]),
            ("speak 0.2\npass 2\nundo\nundo\nredo\nundo\nnow", ["done", "done", "pass_by", "speak", "speak", "speak", "0"]),
            ("tell back\nundo\nhush 0.0\nspeak 0.0\nhush 0.0\nundo", ["done", "tell", "refused Unfit", "done", "done", "hush"]),
        ):
            self.told(told, own.replies, inn, text)
        self.told(["-", "-", "-", "-", "-"], own.replies, bare, "sounding\nknocked\nringing\nahead 9\nahead 0")
        self.told(["- - -"], own.replies, keep, "ahead 60")

    def test_play(self):
        lines = "panels 1 / ring 0 / cut / "
        self.told([lines + "ticks 0", "done", lines + "ticks 7"], own.replies, bare, "play\npass 7\nplay")
        told = own.replies(inn, "speak 0.6\npass 2\ntell harm break 0.3\nhush 0.6\nplay")[-1]
        self.assertTrue(told.endswith(" / out door / speak 0.6 0-2 / deed 2 harm break 0.3 / ticks 2"))
        self.assertEqual(read_play(told.replace(" / ", "\n"))[0], inn)

    def test_refused(self):
        for line, name in (
            ("speak 0.1", "NoSpot"), ("hush 0.4", "NoSpot"), ("feels 9.9", "NoSpot"), ("speak 0." + LONG, "NoSpot"), ("hush 0.0", "Unfit"),
            ("tell part 0", "Unfit"), ("tell off 0.4", "Unfit"), ("tell more 2", "Unfit"), ("tell harm break 0.8", "Unfit"),
            ("undo", "NothingDone"), ("redo", "NothingDone"),
        ):
            # It changes nothing, whatever comes behind.
            self.told([f"refused {name}", "0", "- -"], own.replies, inn, line + "\nnow\nahead 60")
        self.told(["done", "refused Unfit", "speak", "refused NothingDone"], own.replies, inn, "speak 0.0\nspeak 0.0\nundo\nundo")
        self.told(["done", "speak", "refused NoSpot", "speak"], own.replies, inn, "speak 0.0\nundo\nspeak 0.1\nredo")

    def test_lines(self):
        self.told([], own.replies, inn, "")
        for text, number in (
            ("\n", 0), ("now\n", 1), ("\nnow", 0), ("now\n\nnow", 1), ("now\nlook", 1), ("look\nlook", 0), ("now\nundo\npass 0\nlook", 2),
            ("now \nnow", 0), ("now\nnow\nnow\n", 3), ("ahead 61", 0), ("speak 0", 0),
        ):
            self.raises(BadLine(number), own.replies, inn, text)
        self.assertEqual(len(own.replies(loft, "\n".join(["now"] * 60))), 60)

    def test_bad_lines_come_ahead(self):
        """Each of the requests with one line put in that is none."""
        text = "\n".join(GOOD[4:])
        lines = text.split("\n")
        for at in range(len(lines) + 1):
            for line in ("", "look"):
                self.raises(BadLine(at), own.replies, barred, "\n".join(lines[:at] + [line] + lines[at:]))


def told_by(board, line):
    """What is told for a line by the table, at this Board."""
    word, _, rest = line.partition(" ")
    spot = tuple(int(own_one) for own_one in rest.split(".")) if word in ("speak", "hush", "feels") else None
    names = {"NoSpot": NoSpot, "Unfit": Unfit, "NothingDone": NothingDone}
    try:
        if word in ("speak", "hush"):
            return "done" if getattr(board, word)(spot) is None else None
        if word == "feels":
            return {True: "yes", False: "no"}[board.feels(spot)]
        if word in ("undo", "redo"):
            return getattr(board, word)()
        if word == "pass":
            return "done" if board.pass_by(int(rest)) is None else None
        if word == "now":
            return str(board.now())
        if word == "play":
            return " / ".join(play_text(board.play()).split("\n")[:-1])
        row = getattr(board, word)(*([int(rest)] if word == "ahead" else []))
    except tuple(names.values()) as error:
        return "refused " + type(error).__name__
    named = [".".join(map(str, own_one)) if word == "ringing" else "-" if own_one is None else str(own_one) for own_one in row]
    return " ".join(named) or "-"


class ForAll(unittest.TestCase):
    def test_a_desk_beside_a_board(self):
        dice = random.Random(271)
        seen = set()
        for _ in range(150):
            house = some_house(dice)
            feelers = oracle.spots_of_feelers(house) + ((0, 0), (9, 9))
            board, lines, told = Board(house), [], []
            for _ in range(dice.randint(0, 30)):
                word = dice.choice((
                    "speak", "speak", "hush", "feels", "tell", "pass", "undo", "redo", "now", "sounding", "knocked", "ringing", "ahead", "play",
                ))
                if word == "tell":
                    deed = some_deed(dice, dice.choice((house, house, keep)))
                    if deed is None:
                        continue
                    line = "tell " + deed_name(deed)
                    try:
                        told.append("done" if board.tell(deed) is None else None)
                    except Unfit:
                        told.append("refused Unfit")
                else:
                    spot = dice.choice(feelers)
                    line = word
                    if word in ("speak", "hush", "feels"):
                        line = f"{word} {spot[0]}.{spot[1]}"
                    elif word in ("pass", "ahead"):
                        line = f"{word} {dice.randint(1, 5)}"
                    told.append(told_by(board, line))
                lines.append(line)
                seen.add(told[-1])
            self.assertEqual(own.replies(house, "\n".join(lines)), told)
            self.assertEqual([own.is_request(line) for line in lines], [True] * len(lines))
        self.assertGreater(len(seen), 100)
        self.assertTrue({"refused NoSpot", "refused Unfit", "refused NothingDone", "-", "yes", "no", "done", "pass_by"} <= seen)
