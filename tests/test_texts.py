"""Texts [25]."""

import random
import re
import unittest

from secondknock import texts as own
from secondknock.errors import BadLine, Unfit
from secondknock.houses import is_house, is_play
from tests.samples import bare, barred, crowd, inn, keep, loft, some_house, some_play, tower
from tests.styles import StyledCase

A, B, C = (0, 0), (0, 2), (0, 3)
HOUSES = (inn, barred, loft, keep, bare, tower, crowd)
PLAY = (inn, ((A, ((1, 4), (6, None))), (C, ((2, None),))), ((3, ("off", B)), (3, ("back",))), 9)
LONG = "9" * 1000
DEEDS = (
    ("off 0.2", ("off", B)), ("on 12.0", ("on", (12, 0))), ("quiet", ("quiet",)), ("sound", ("sound",)), ("back", ("back",)),
    ("more 3", ("more", 3)), ("harm break 0.4", ("harm", ("break", (0, 4)))), ("heal short 7.10", ("heal", ("short", (7, 10)))),
    ("part 0", ("part", 0)), ("join 2", ("join", 2)), ("more " + LONG, ("more", int(LONG))),
)
ODD = ("", " ", "\n", "-", "--", ".", ",", "0.", ".0", "0..0", "a", "0 0", "()", "~", "+1", "-1", "1_0", "0x1", "1e3", "00", "1,", ",1")


class Names(StyledCase):
    def test_spots(self):
        for spot, name in (((0, 12), "0.12"), (A, "0.0"), ((10 ** 6, 3), "1000000.3")):
            self.told(name, own.spot_name, spot)
            self.told(spot, own.spot_read, name)
        self.told((int(LONG), 0), own.spot_read, LONG + ".0")
        for word in ODD + ("1.03", "01.3", "1.2.3", " 1.2", "1.2 ", "1 .2", "1.2\n", "1,2", "-1.2", "1.-2", "0.0.", "break 0.4"):
            self.told(None, own.spot_read, word)

    def test_sets(self):
        for row, name in (((), "-"), ((0,), "0"), ((0, 2), "0,2"), ((3, 10, 200), "3,10,200")):
            self.told(name, own.set_name, row)
            self.told(row, own.set_read, name)
        for word in set(ODD) - {"-"} | {"2,0", "0,0", "0, 2", "0,-", "-,0", "0,02", "0,2,", "0;2", "0,2\n", "1,2,2"}:
            self.told(None, own.set_read, word)

    def test_deeds(self):
        for name, deed in DEEDS:
            self.told(name, own.deed_name, deed)
            self.told(deed, own.deed_read, name)
        for word in ODD + (
            "off", "off ", "off 0", "off  0.2", " off 0.2", "off 0.2 ", "off 0.2 0.2", "quiet ", "quiet 0", "back\n", "more 0.2",
            "more", "more 01", "more -", "harm 0.4", "harm break", "harm bend 0.4", "harm break 0", "harm short 0.4 1", "harm cut 0.4",
            "part 0.0", "Quiet", "speak 0.2", "break 0.4", "heal short 00.4", "join 1,2", "back back",
        ):
            self.told(None, own.deed_read, word)

    def test_logs(self):
        for log, name in (
            ((3, None, "lost"), "3,-,lost"), ((None, 0, "lost"), "-,0,lost"), ((), "()"), ((None,), "-"), (("lost",), "lost"),
            ((10 ** 6,), "1000000"), ((0, 0), "0,0"), ((5, 3), "5,3"),
        ):
            self.told(name, own.log_name, log)
            self.told(log, own.log_read, name)
        for word in set(ODD) - {"-", "()"} | {"3,,4", "3,", "lost,", "Lost", "3, 4", "03", "()3", "3,()", "--", "-1", "none", "3,-\n"}:
            self.told(None, own.log_read, word)


class Texts(StyledCase):
    def test_houses(self):
        for house in HOUSES:
            text = own.house_text(house)
            self.told(text, own.house_text, house)
            self.told(house, own.read_house, text)
            # One line break at the end begins no further line.
            self.told(house, own.read_house, text[:-1])
            self.raises(BadLine(text.count("\n")), own.read_house, text + "\n")
        # Without ZONES, LINES, OUTS.
        self.told("panels 1\nring 0\ncut\n", own.house_text, bare)
        self.told(
            "panels 3\nring 2\nfeel 4\nbell 1\ncut\nfeel 0\nring 0\nfeel 1\ncut\ncut\nfeel 1\nbell 1\nring 1\ncut\nring 1\nfeel 2\nfeel 2\n"
            "zone 2 3 0.0 0.3\nzone 2 0 1.0 1.3\nzone 1 - 3.0 3.1\nline 0 any 0,2 2 1 1 3 0\nline 1 all 0,2 0 - 0 0 1\n"
            "line 2 any 1 4 2 1 2 1\nline 0 all 0,1,2 1 - 2 0 0\nout door\nout bell\nout door\n",
            own.house_text, keep,
        )

    def test_plays(self):
        self.told(own.house_text(inn) + "speak 0.0 1-4 6-\nspeak 0.3 2-\ndeed 3 off 0.2\ndeed 3 back\nticks 9\n", own.play_text, PLAY)
        self.told(PLAY, own.read_play, own.play_text(PLAY))
        self.told(PLAY, own.read_play, own.play_text(PLAY)[:-1])
        self.raises(BadLine(20), own.read_play, own.play_text(PLAY) + "\n")
        self.raises(BadLine(20), own.read_play, own.play_text(PLAY) + "ticks 9\n")
        self.told("panels 1\nring 0\ncut\nticks 0\n", own.play_text, (bare, (), (), 0))
        self.told((bare, (), (), 0), own.read_play, "panels 1\nring 0\ncut\nticks 0")
        deeds = tuple((at, deed) for at, (_, deed) in enumerate(DEEDS[:6]))
        wide = loft[:2] + (loft[2] * 2,) + loft[3:]
        play = (wide, (), deeds[:1] + deeds[2:] + ((6, ("part", 1)), (200, ("heal", ("short", (1, 2))))), 200)
        self.assertTrue(is_play(play))
        self.told(play, own.read_play, own.play_text(play))


HEAD = "panels 1\nring 0\nfeel 0\nfeel 1\n"
ZONE = "zone 1 - 0.0\n"
LINE = "line 0 any 0 3 - 0 4 0\n"


class Lines(StyledCase):
    def bad(self, number, text, play=False):
        self.raises(BadLine(number), own.read_play if play else own.read_house, text)

    def test_too_early(self):
        for text, number in (
            ("", 0), ("\n", 0), ("panels 1", 1), ("panels 1\n", 1), ("panels 1\n\n", 1), ("panels 1\nring 0", 2),
            ("panels 1\nring 0\n", 2), ("panels 1\nring 0\ncut\nring 0\n", 4),
        ):
            self.bad(number, text)
            self.bad(number, text, True)
        # A HOUSE alone, a SPEECH, DEEDS: `ticks` is not there.
        for more, number in (("", 4), ("speak 0.0 1-\n", 5), ("deed 0 back\n", 5), ("deed 0 back", 5), ("\n", 4), (ZONE, 5)):
            self.bad(number, HEAD + more, True)

    def test_order_of_lines(self):
        for text, number in (
            ("ring 0\nfeel 0", 0), ("panels 1\nfeel 0", 1), ("panels 1\npanels 1", 1), ("panels 1\nring 0\nring 0\ncut", 2),
            ("panels 1\nring 0\nzone 1 - 0.0", 2), ("panels 1\nzone 1 - 0.0", 1), (HEAD + "panels 1", 4), (HEAD + ZONE + "ring 0", 5),
            (HEAD + ZONE + "feel 0", 5), (HEAD + ZONE + LINE + ZONE, 6), (HEAD + "out door\n" + ZONE, 5), (HEAD + "out door\n" + LINE, 5),
            (HEAD + "speak 0.0 1-", 4), (HEAD + "deed 0 back", 4), (HEAD + "ticks 9", 4), (HEAD + "out door\nticks 9", 5),
            (HEAD + "\n", 4), (HEAD + "\nout door", 4), (" " + HEAD, 0),
        ):
            self.bad(number, text)
        for more, number in (
            ("deed 0 back\nspeak 0.0 1-\nticks 9", 5), ("ticks 9\nspeak 0.0 1-", 5), ("ticks 9\nticks 9", 5), ("ticks 9\n\n", 5),
            ("speak 0.0 1-\nout door\nticks 3", 5), ("deed 0 back\nout door\nticks 3", 5), ("ticks 3\nout door", 5),
            ("speak 0.1 1-\nspeak 0.0 1-\nticks 9", 5), ("speak 0.0 1-\nspeak 0.0 3-\nticks 9", 5),
            ("deed 3 back\ndeed 2 back\nticks 9", 5),
        ):
            self.bad(number, HEAD + more, True)

    def test_each_line(self):
        for line in (
            "panels", "panels ", "panels 01", "panels  1", " panels 1", "panels 1 ", "panels -", "panels 1 1", "Panels 1", "panels +1", "panel 1",
        ):
            self.bad(0, line + "\nring 0\ncut")
        for line in ("ring", "ring 00", "ring 0 0", "ring -", "ring  0"):
            self.bad(1, "panels 1\n" + line + "\ncut")
        for line in ("feel", "feel -1", "feel 0 ", "bell", "bell 0 0", "cut ", "cut 0", "cut cut", "feel 0.0", "feel 00", "CUT", ""):
            self.bad(2, "panels 1\nring 0\n" + line + "\ncut")
        for line in (
            "zone 1 -", "zone 1 0.0", "zone 0 - 0.0", "zone 3 - 0.0", "zone 01 - 0.0", "zone 1 -1 0.0", "zone 1 00 0.0", "zone 1 - 0.1 0.0",
            "zone 1 - 0.0 0.0", "zone 1 - 0.0,0.1", "zone 1 - 0.0 ", "zone 1  - 0.0", "zone", "zone 1 - 0", "zone 1 - 0.00", "zone - 1 0.0",
        ):
            self.bad(4, HEAD + line + "\nout door")
        for line in (
            "line 0 any - 3 - 0 4 0", "line 0 any 0 3 - 0 4 2", "line 0 some 0 3 - 0 4 0", "line 0 any 1,0 3 - 0 4 0", "line 0 any 0 3 1,0 0 4 0",
            "line 0 any 0 - - 0 4 0", "line 0 any 0 3 - 0 4", "line 0 any 0 3 - 0 4 0 0", "line any 0 0 3 - 0 4 0", "line 0 any 0 3  0 4 0",
            "line 0 any 0 3 - 0 4 00", "line 00 any 0 3 - 0 4 0", "line 0 any 0 3 - - 4 0", "line", "line 0 any 0,0 3 - 0 4 0",
        ):
            self.bad(5, HEAD + ZONE + line + "\nout door")
        for line in ("out", "out window", "out bell door", "out Bell", "out bell ", "out 0"):
            self.bad(4, HEAD + line)

    def test_each_line_of_a_play(self):
        for line in (
            "speak", "speak 0.0", "speak 0 1-", "speak 0.0 1", "speak 0.0 -1", "speak 0.0 -", "speak 0.0 4-4", "speak 0.0 4-3", "speak 0.0 1-3 3-",
            "speak 0.0 1-3 2-4", "speak 0.0 1- 4-5", "speak 0.0 1- 4-", "speak 0.0 1-3,5-", "speak 0.0 01-3", "speak 0.0 1--3", "speak 0.0 1-3-",
            "speak 0.0  1-3", "speak 0.0 1-3 ", "speak 0.0 5-6 1-2",
            "deed", "deed 3", "deed back", "deed 3 ", "deed 3  back", "deed 03 back", "deed 3 off", "deed 3 off 0", "deed 3 back 0", "deed - back",
            "ticks", "ticks -", "ticks 09", "ticks 9 ", "ticks 9 9", "ticks  9", "Ticks 9", "",
        ):
            self.bad(4, HEAD + line + "\nticks 9", True)

    def test_unfit(self):
        """Each line can stand there, but there is no such HOUSE, PLAY."""
        for text in (
            "panels 0\nring 0\ncut", "panels 4\nring 0\ncut", "panels 1\nring 1\ncut", "panels 1\nring 0\nbell 0", "panels " + LONG + "\nring 0\ncut",
            HEAD + "zone 2 - 0.0", HEAD + "zone 1 - 0.9", HEAD + "zone 1 - 1.0", HEAD + ZONE + LINE, HEAD + LINE + "out door",
            HEAD + ZONE + "line 1 any 0 3 - 0 4 0\nout door", HEAD + ZONE + "line 0 any 0,1 3 - 0 4 0\nout door",
            HEAD + ZONE + "line 0 any 0 3 1 0 4 0\nout door", "panels 1\nring 0\nbell 0\nout door", HEAD + "zone 1 - 0." + LONG,
        ):
            self.raises(Unfit(), own.read_house, text)
            self.raises(Unfit(), own.read_play, text.strip("\n") + "\nticks 3")
        for more in ("speak 0.9 1-\n", "speak 1.0 1-\n", "deed 0 off 0.9\n", "deed 0 more 0\n", "deed 0 part 0\n", "deed 0 harm short 0.3\n"):
            self.raises(Unfit(), own.read_play, HEAD + more + "ticks 9")
        # A bad line comes ahead, wherever it is.
        self.bad(3, "panels 9\nring 7\ncut\nCUT")

    def test_no_more_than_a_thousand_figures(self):
        house = own.read_house(f"panels 1\nring 0\nfeel {LONG}\n")
        self.assertEqual(house[0][0][1][0], ("feel", int(LONG)))
        self.told(f"panels 1\nring 0\nfeel {LONG}\n", own.house_text, house)
        self.told((bare, (), (), int(LONG)), own.read_play, f"panels 1\nring 0\ncut\nticks {LONG}")


# The names and lines by patterns alone, for the tests that compare.
NUMBER = r"(?:0|[1-9][0-9]*)"
SPOT = rf"{NUMBER}\.{NUMBER}"
SET = rf"(?:-|{NUMBER}(?:,{NUMBER})*)"
DEED = rf"(?:quiet|sound|back|(?:off|on) {SPOT}|(?:more|part|join) {NUMBER}|(?:harm|heal) (?:break|short) {SPOT})"
PATTERNS = (
    ("panels", rf"panels {NUMBER}"), ("ring", rf"ring {NUMBER}"), ("piece", rf"(?:feel|bell) {NUMBER}|cut"),
    ("zone", rf"zone [12] (?:-|{NUMBER})(?: {SPOT})+"),
    ("line", rf"line {NUMBER} (?:any|all) (?!- ){SET} {NUMBER} {SET} {NUMBER} {NUMBER} [01]"), ("out", r"out (?:bell|door)"),
    ("speak", rf"speak {SPOT}(?: {NUMBER}-{NUMBER})*(?: {NUMBER}-(?:{NUMBER})?)"), ("deed", rf"deed {NUMBER} {DEED}"), ("ticks", rf"ticks {NUMBER}"),
)
KINDS = [kind for kind, _ in PATTERNS]


def rises_in(numbers):
    return all(one < other for one, other in zip(numbers, numbers[1:]))


def kind_of(line):
    """The kind of a line that can stand somewhere; None if it can not."""
    for kind, pattern in PATTERNS:
        if re.fullmatch(pattern, line):
            words = line.split(" ")
            if kind == "zone":
                return kind if rises_in([tuple(map(int, spot.split("."))) for spot in words[3:]]) else None
            if kind == "line":
                sets = [[int(own_one) for own_one in word.split(",")] for word in (words[3], words[5]) if word != "-"]
                return kind if all(map(rises_in, sets)) else None
            if kind == "speak":
                marks = [int(mark) for word in words[2:] for mark in word.split("-") if mark]
                return kind if rises_in(marks) else None
            return kind
    return None


def first_bad(text, play):
    """The number of the first line that can not stand there; None if all can and are enough."""
    lines = text.split("\n")
    lines = lines[:-1] if lines[-1] == "" else lines
    ahead, last_spot, last_tick = None, None, None
    for number, line in enumerate(lines):
        kind = kind_of(line)
        if kind is None or not play and kind in ("speak", "deed", "ticks"):
            return number
        rank, before = KINDS.index(kind), -1 if ahead is None else KINDS.index(ahead)
        good = rank == 0 if ahead is None else rank >= before
        if ahead in ("panels", "ring"):
            good = rank == before + 1
        if ahead == "piece" and kind == "ring":
            good = True
        if kind == "ticks" == ahead or kind == "panels" and number:
            good = False
        if kind == "piece" and ahead not in ("ring", "piece") or kind == "ring" and ahead not in ("panels", "piece"):
            good = False
        if kind == "speak":
            spot = tuple(map(int, line.split(" ")[1].split(".")))
            good, last_spot = good and (last_spot is None or last_spot < spot), spot
        if kind == "deed":
            tick = int(line.split(" ")[1])
            good, last_tick = good and (last_tick is None or last_tick <= tick), tick
        if not good:
            return number
        ahead = kind
    return None if ahead == "ticks" or not play and ahead not in (None, "panels", "ring") else len(lines)


class ForAll(unittest.TestCase):
    def test_all_are_read_back(self):
        dice = random.Random(251)
        for _ in range(400):
            play = some_play(dice)
            text = own.play_text(play)
            self.assertEqual(own.read_play(text), play)
            self.assertEqual(own.read_house(own.house_text(play[0])), play[0])
            self.assertTrue(text.startswith(own.house_text(play[0])))
            self.assertIsNone(first_bad(text, True))
            self.assertEqual(first_bad(text, False) is None, False)

    def bent(self, dice, lines):
        """The lines with one left out, put in twice, put elsewhere, or with a sign bent."""
        lines = list(lines)
        at, kind = dice.randrange(len(lines)), dice.randint(0, 5)
        if kind == 0:
            del lines[at]
        elif kind == 1:
            lines.insert(dice.randrange(len(lines) + 1), lines[at])
        elif kind == 2:
            lines.insert(dice.randrange(len(lines)), lines.pop(at))
        elif kind == 3:
            lines = lines[:at]
        else:
            line = lines[at]
            where, sign = dice.randrange(len(line) + 1), dice.choice("0123456789  --..,ab\n")
            lines[at] = line[:where] + sign + line[where + dice.randint(0, 1):]
        return "\n".join(lines) + dice.choice(("", "\n", "\n", "\n\n"))

    def test_bent_texts(self):
        dice = random.Random(252)
        seen = {"bad": 0, "unfit": 0, "fit": 0}
        for _ in range(6000):
            play = some_play(dice, 12, 4)
            is_one = dice.randint(0, 1)
            text = own.play_text(play) if is_one else own.house_text(play[0])
            text = self.bent(dice, text.split("\n")[:-1])
            read, name = (own.read_play, own.play_text) if is_one else (own.read_house, own.house_text)
            number = first_bad(text, bool(is_one))
            try:
                told = read(text)
                self.assertIsNone(number)
                self.assertTrue((is_play if is_one else is_house)(told))
                # It has just these lines.
                self.assertEqual(name(told).split("\n")[:-1], text.split("\n") if text[-1] != "\n" else text[:-1].split("\n"))
                seen["fit"] += 1
            except BadLine as error:
                self.assertEqual(error.number, number, text)
                seen["bad"] += 1
            except Unfit:
                self.assertIsNone(number, text)
                seen["unfit"] += 1
        self.assertGreater(min(seen.values()), 200)

    def test_all_short_words(self):
        """Each reader tells what has just this name."""
        signs = "01.,-) (l"
        words = [""]
        for _ in range(4):
            words = words + [word + sign for word in words if len(word) == len(words[-1]) for sign in signs]
        for word in words:
            for read, name in ((own.spot_read, own.spot_name), (own.set_read, own.set_name), (own.log_read, own.log_name)):
                told = read(word)
                if told is not None:
                    self.assertEqual(name(told), word)
            self.assertEqual(own.spot_read(word) is not None, bool(re.fullmatch(SPOT, word)))
            is_set = re.fullmatch(SET, word) and (word == "-" or rises_in(list(map(int, word.split(",")))))
            self.assertEqual(own.set_read(word) is not None, bool(is_set))
            is_log = word == "()" or re.fullmatch(rf"(?:-|{NUMBER}|lost)(?:,(?:-|{NUMBER}|lost))*", word)
            self.assertEqual(own.log_read(word) is not None, bool(is_log))

    def test_bent_deeds(self):
        dice = random.Random(253)
        good = 0
        for _ in range(4000):
            name = dice.choice(DEEDS[:-1])[0]
            where = dice.randrange(len(name) + 1)
            word = name[:where] + dice.choice(["", " ", "0", "1", ".", "break", "off"]) + name[where + dice.randint(0, 1):]
            told = own.deed_read(word)
            self.assertEqual(told is not None, bool(re.fullmatch(DEED, word)), word)
            if told is not None:
                self.assertEqual(own.deed_name(told), word)
                good += 1
        self.assertGreater(good, 300)
        for house in (some_house(dice) for _ in range(50)):
            self.assertEqual(own.read_house(own.house_text(house)), house)
