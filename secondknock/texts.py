"""Texts: the names of SPOTS, sets, DEEDS and logs, the lines of HOUSES and PLAYS, and what reads them back."""

from secondknock.errors import BadLine, Unfit
from secondknock.houses import is_house, is_play
from secondknock.values import are_stretches, is_ascending, power

FIGURES = "0123456789"
CHUNK = 500
PIECES = ("feel", "bell", "cut")
# The kinds of lines, and which can stand behind each; "" is ahead of all.
FOLLOWERS = {
    "": ("panels",),
    "panels": ("ring",),
    "ring": ("feel", "bell", "cut"),
    "feel": ("feel", "bell", "cut", "ring", "zone", "line", "out", "speak", "deed", "ticks"),
    "bell": ("feel", "bell", "cut", "ring", "zone", "line", "out", "speak", "deed", "ticks"),
    "cut": ("feel", "bell", "cut", "ring", "zone", "line", "out", "speak", "deed", "ticks"),
    "zone": ("zone", "line", "out", "speak", "deed", "ticks"),
    "line": ("line", "out", "speak", "deed", "ticks"),
    "out": ("out", "speak", "deed", "ticks"),
    "speak": ("speak", "deed", "ticks"),
    "deed": ("deed", "ticks"),
    "ticks": (),
}
OF_PLAYS_ALONE = ("speak", "deed", "ticks")
ENDS_OF_HOUSES = ("feel", "bell", "cut", "zone", "line", "out")
ENDS_OF_PLAYS = ("ticks",)


def spot_name(spot):
    """The name of this SPOT, or GAP."""
    number, at = spot
    return f"{number}.{at}"


def set_name(row):
    """The name of this set of numbers."""
    return ",".join([str(own) for own in row]) if len(row) > 0 else "-"


def stretch_name(stretch):
    """The name of a stretch."""
    begin, end = stretch
    return f"{begin}-" if end is None else f"{begin}-{end}"


def deed_name(deed):
    """The name of this DEED."""
    word = deed[0]
    if word in ("off", "on"):
        return f"{word} {spot_name(deed[1])}"
    if word in ("harm", "heal"):
        kind, gap = deed[1]
        return f"{word} {kind} {spot_name(gap)}"
    return word if len(deed) == 1 else f"{word} {deed[1]}"


def log_name(log):
    """The name of this log."""
    return ",".join(["-" if own is None else str(own) for own in log]) if len(log) > 0 else "()"


def ring_lines(ring):
    """The list of the lines of a RING."""
    panel, pieces = ring
    return [f"ring {panel}"] + [" ".join([str(own) for own in piece]) for piece in pieces]


def zone_line(zone):
    """The line of a ZONE."""
    spots, knocks, stay = zone
    return " ".join(["zone", str(knocks), "-" if stay is None else str(stay)] + [spot_name(spot) for spot in spots])


def line_line(line):
    """The line of a LINE."""
    panel, when, zones, wait, unless, out, more, again = line
    return f"line {panel} {when} {set_name(zones)} {wait} {set_name(unless)} {out} {more} {again}"


def house_lines(house):
    """The list of the lines of a HOUSE."""
    rings, zones, lines, outs, panels = house
    found = [f"panels {panels}"]
    for ring in rings:
        found.extend(ring_lines(ring))
    found = found + [zone_line(own) for own in zones] + [line_line(own) for own in lines]
    return found + [f"out {own}" for own in outs]


def speak_line(spot, stretches):
    """The line of a pair of a SPEECH."""
    return " ".join(["speak", spot_name(spot)] + [stretch_name(own) for own in stretches])


def play_lines(play):
    """The list of the lines of a PLAY."""
    house, speech, deeds, many = play
    found = house_lines(house) + [speak_line(spot, stretches) for spot, stretches in speech]
    return found + [f"deed {tick} {deed_name(deed)}" for tick, deed in deeds] + [f"ticks {many}"]


def house_text(house):
    """The text of this HOUSE."""
    return "".join([line + "\n" for line in house_lines(house)])


def play_text(play):
    """The text of this PLAY."""
    return "".join([line + "\n" for line in play_lines(play)])


def number_read(word):
    """The number written so in figures, without a needless 0; None if there is none."""
    if word == "" or not all([sign in FIGURES for sign in word]) or (word[0] == "0" and word != "0"):
        return None
    total = 0
    # int(..) takes no more than some thousand figures at once.
    for at in range(0, len(word), CHUNK):
        part = word[at:at + CHUNK]
        total = total * power(10, len(part)) + int(part)
    return total


def numbers_read(words):
    """The tuple of the numbers written so; None if one is none."""
    numbers = tuple([number_read(own) for own in words])
    return None if None in numbers else numbers


def spot_read(word):
    """The pair of numbers with this name; None if there is none."""
    words = word.split(".")
    return numbers_read(words) if len(words) == 2 else None


def set_read(word):
    """The set of numbers with this name; None if there is none."""
    if word == "-":
        return ()
    numbers = numbers_read(word.split(","))
    return numbers if numbers is not None and is_ascending(numbers) else None


def stretch_read(word):
    """The pair of a number and a number or None with this name; None if there is none."""
    words = word.split("-")
    if len(words) == 2 and words[1] == "":
        begin = number_read(words[0])
        return None if begin is None else (begin, None)
    return numbers_read(words) if len(words) == 2 else None


def fault_read(words):
    """The FAULT of a list of two words; None if there is none."""
    if len(words) != 2 or words[0] not in ("break", "short"):
        return None
    gap = spot_read(words[1])
    return None if gap is None else (words[0], gap)


def named_read(word, words):
    """What a DEED of this word names by these words; None if there is none."""
    if word in ("harm", "heal"):
        return fault_read(words)
    if len(words) != 1:
        return None
    if word in ("off", "on"):
        return spot_read(words[0])
    return number_read(words[0]) if word in ("more", "part", "join") else None


def deed_read(word):
    """The DEED, of any numbers, with this name; None if there is none."""
    words = word.split(" ")
    if words[0] in ("quiet", "sound", "back"):
        return (words[0],) if len(words) == 1 else None
    named = named_read(words[0], words[1:])
    return None if named is None else (words[0], named)


def log_read(word):
    """The tuple of ticks, None and "lost" with this name; None if there is none."""
    if word == "()":
        return ()
    words = word.split(",")
    log = tuple([own if own == "lost" else number_read(own) for own in words])
    known = [told is not None or own == "-" for own, told in zip(words, log)]
    return log if all(known) else None


def number_told(words):
    """The number of a line of a word and a number; None if it is none."""
    return number_read(words[1]) if len(words) == 2 else None


def piece_told(words):
    """The PIECE of a line; None if it is none."""
    if words == ["cut"]:
        return ("cut",)
    number = number_told(words)
    return None if number is None or words[0] == "cut" else (words[0], number)


def zone_told(words):
    """The ZONE of a line; None if it is none."""
    if len(words) < 4 or words[1] not in ("1", "2"):
        return None
    stay = number_read(words[2])
    spots = tuple([spot_read(own) for own in words[3:]])
    if (stay is None and words[2] != "-") or None in spots or not is_ascending(spots):
        return None
    return (spots, number_read(words[1]), stay)


def line_told(words):
    """The LINE of a line; None if it is none."""
    if len(words) != 9 or words[2] not in ("any", "all") or words[8] not in ("0", "1"):
        return None
    zones, unless = set_read(words[3]), set_read(words[5])
    numbers = numbers_read([words[1], words[4], words[6], words[7], words[8]])
    if zones is None or zones == () or unless is None or numbers is None:
        return None
    panel, wait, out, more, again = numbers
    return (panel, words[2], zones, wait, unless, out, more, again)


def out_told(words):
    """The OUT of a line; None if it is none."""
    return words[1] if len(words) == 2 and words[1] in ("bell", "door") else None


def speak_told(words):
    """The pair of a SPEECH of a line; None if it is none."""
    if len(words) < 3:
        return None
    spot = spot_read(words[1])
    stretches = tuple([stretch_read(own) for own in words[2:]])
    return (spot, stretches) if spot is not None and are_stretches(stretches) else None


def deed_told(words):
    """The pair of DEEDS of a line; None if it is none."""
    if len(words) < 3:
        return None
    tick, deed = number_read(words[1]), deed_read(" ".join(words[2:]))
    return None if tick is None or deed is None else (tick, deed)


TOLD = {
    "panels": number_told,
    "ring": number_told,
    "feel": piece_told,
    "bell": piece_told,
    "cut": piece_told,
    "zone": zone_told,
    "line": line_told,
    "out": out_told,
    "speak": speak_told,
    "deed": deed_told,
    "ticks": number_told,
}


def fits_behind(ahead, entry):
    """Whether what a line tells can stand behind what the one ahead tells: SPOTS ascend, ticks never fall."""
    if ahead[0] != entry[0]:
        return True
    if entry[0] == "speak":
        return ahead[1][0] < entry[1][0]
    return entry[0] != "deed" or ahead[1][0] <= entry[1][0]


def entry_behind(ahead, line):
    """The pair of the kind of a line and what it tells; None if it can not stand behind the pair of the one ahead."""
    words = line.split(" ")
    if words[0] not in FOLLOWERS[ahead[0]]:
        return None
    read = TOLD[words[0]]
    entry = (words[0], read(words))
    return entry if entry[1] is not None and fits_behind(ahead, entry) else None


def lines_in(text):
    """The list of the lines of a text; one line break at the end begins no further one."""
    lines = text.split("\n")
    return lines if lines[-1] else lines[:-1]


def entries_in(text, barred, ends):
    """The list of the pairs (kind, what it tells) of all lines, none of a barred kind, the last of one of ends."""
    entries = [("", None)]
    for number, line in enumerate(lines_in(text)):
        entry = entry_behind(entries[-1], line)
        if entry is None or entry[0] in barred:
            raise BadLine(number)
        entries.append(entry)
    if entries[-1][0] not in ends:
        raise BadLine(len(entries) - 1)
    return entries


def told_by(entries, kind):
    """The tuple of what all lines of a kind tell."""
    return tuple([told for own, told in entries if own == kind])


def rings_by(entries):
    """The RINGS that these lines tell."""
    rings = []
    for kind, told in entries:
        if kind == "ring":
            rings.append((told, ()))
        elif kind in PIECES:
            panel, pieces = rings[-1]
            rings[-1] = (panel, pieces + (told,))
    return tuple(rings)


def house_by(entries):
    """The HOUSE that these lines tell, maybe none."""
    zones, lines, outs = told_by(entries, "zone"), told_by(entries, "line"), told_by(entries, "out")
    return (rings_by(entries), zones, lines, outs, told_by(entries, "panels")[0])


def read_house(text):
    """The HOUSE with this text."""
    house = house_by(entries_in(text, OF_PLAYS_ALONE, ENDS_OF_HOUSES))
    if not is_house(house):
        raise Unfit()
    return house


def read_play(text):
    """The PLAY with this text."""
    entries = entries_in(text, (), ENDS_OF_PLAYS)
    speech, deeds = told_by(entries, "speak"), told_by(entries, "deed")
    play = (house_by(entries), speech, deeds, told_by(entries, "ticks")[0])
    if not is_play(play):
        raise Unfit()
    return play
