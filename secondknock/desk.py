"""A desk: the lines of a text carried out one after another at a Board."""

from secondknock.board import Board
from secondknock.errors import BadLine, NoSpot, NothingDone, Unfit
from secondknock.texts import deed_read, number_read, play_lines, spot_name, spot_read

LONE_WORDS = ("undo", "redo", "now", "sounding", "knocked", "ringing", "play")
MOST_TICKS = 60


def ticks_read(word, least):
    """The number of ticks, from least on, written so; None if there is none."""
    number = number_read(word)
    return number if number is not None and least <= number <= MOST_TICKS else None


def named_by(word, rest):
    """What a request of this word names by the rest of its line; None if there is none."""
    if word in ("speak", "hush", "feels"):
        return spot_read(rest)
    if word == "tell":
        return deed_read(rest)
    if word == "pass":
        return ticks_read(rest, 1)
    return ticks_read(rest, 0) if word == "ahead" else None


def request_of(line):
    """The pair of the word of a request and what it names, or None; None for a line that is no request."""
    if line in LONE_WORDS:
        return (line, None)
    word, _, rest = line.partition(" ")
    named = named_by(word, rest)
    return None if named is None else (word, named)


def is_request(thing):
    """Whether thing is a string that is a request."""
    return isinstance(thing, str) and request_of(thing) is not None


def row_told(words):
    """These words with single blanks between; "-" if there are none."""
    return " ".join(words) if words else "-"


def speak_done(board, spot):
    """Has a feeler speak."""
    board.speak(spot)
    return "done"


def hush_done(board, spot):
    """Has a feeler speak no more."""
    board.hush(spot)
    return "done"


def tell_done(board, deed):
    """Tells a DEED."""
    board.tell(deed)
    return "done"


def pass_done(board, many):
    """Lets ticks go by."""
    board.pass_by(many)
    return "done"


def undo_told(board, _):
    """The name of the deed that is taken back."""
    return board.undo()


def redo_told(board, _):
    """The name of the deed that is done again."""
    return board.redo()


def now_told(board, _):
    """How many ticks have gone by."""
    return str(board.now())


def feels_told(board, spot):
    """Whether a feeler is to speak."""
    return "yes" if board.feels(spot) else "no"


def sounding_told(board, _):
    """The OUTS that sound."""
    return row_told([str(out) for out in board.sounding()])


def knocked_told(board, _):
    """The ZONES that are knocked."""
    return row_told([str(zone) for zone in board.knocked()])


def ringing_told(board, _):
    """The names of the SPOTS of bells that ring."""
    return row_told([spot_name(spot) for spot in board.ringing()])


def ahead_told(board, many):
    """For each OUT the tick since which it would be on."""
    return row_told(["-" if tick is None else str(tick) for tick in board.ahead(many)])


def play_told(board, _):
    """The lines of the PLAY."""
    return " / ".join(play_lines(board.play()))


ANSWERS = {
    "speak": speak_done,
    "hush": hush_done,
    "tell": tell_done,
    "pass": pass_done,
    "undo": undo_told,
    "redo": redo_told,
    "now": now_told,
    "feels": feels_told,
    "sounding": sounding_told,
    "knocked": knocked_told,
    "ringing": ringing_told,
    "ahead": ahead_told,
    "play": play_told,
}


def reply(board, request):
    """What is told for a request, carried out at this Board."""
    word, named = request
    answer = ANSWERS[word]
    try:
        return answer(board, named)
    except NoSpot:
        return "refused NoSpot"
    except Unfit:
        return "refused Unfit"
    except NothingDone:
        return "refused NothingDone"


def requests_in(text):
    """The list of the requests of a text; BadLine for the first line that is none."""
    requests = []
    lines = text.split("\n") if text else []
    for number, line in enumerate(lines):
        request = request_of(line)
        if request is None:
            raise BadLine(number)
        requests.append(request)
    return requests


def replies(house, text):
    """The list of what is told for the lines of this text at a Board of this HOUSE."""
    requests = requests_in(text)
    board = Board(house)
    return [reply(board, request) for request in requests]
