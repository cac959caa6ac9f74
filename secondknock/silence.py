"""Quiet, set back, asked: what quiets can keep from sounding, what is so between set-backs, how late DEEDS make it."""

from secondknock.errors import CanNot, NoTick, Unfit
from secondknock.forms import ticks_by_spot
from secondknock.houses import check_line, check_out, rises, zone_panel
from secondknock.islands import line_begin
from secondknock.plays import checked_play, deeds_at, stands_of
from secondknock.stretches import told_from
from secondknock.ticks import behind_deed, new_stand
from secondknock.values import as_set, frozen, is_number, is_tuple, spans_in
from secondknock.within import times_by


def fresh_zones(house, stand, tick):
    """The set of the ZONES newly knocked at this tick, by the STAND behind it."""
    panels = [zone_panel(house, number) for number in range(len(house[1]))]
    return tuple([number for number, panel in enumerate(panels) if stand[4][panel][number] == tick])


def new_knocks(play):
    """The list of the pairs of a tick and the set of the ZONES newly knocked at it."""
    play = checked_play(play)
    rows = [(tick, fresh_zones(play[0], stand, tick)) for tick, stand in enumerate(stands_of(play))]
    return [row for row in rows if row[1]]


def mute_spans(play):
    """The list of the pairs (from, to) of the ticks, from one to below the other, at which it is mute."""
    return spans_in([stand[8] for stand in stands_of(checked_play(play))], ())


def fields_of(play):
    """The list of the FIELDS of a PLAY; tuples throughout."""
    _, _, deeds, many = play
    backs = [tick for tick, deed in deeds if deed[0] == "back"]
    begins = as_set([tick for tick in [0] + backs if tick < many])
    return list(zip(begins, begins[1:] + (many,)))


def fields(play):
    """The list of the FIELDS of this PLAY."""
    return fields_of(checked_play(play))


def checked_out(play, out):
    """The PLAY in tuples; raises NoOut if its HOUSE has none of this number, ahead of its DEEDS' errors."""
    check_out(frozen(play[0]), out)
    return checked_play(play)


def is_on_by_tick(play, out):
    """For each tick of a PLAY whether an OUT is on behind it; tuples throughout."""
    return [stand[7][out] is not None for stand in stands_of(play)]


def on_spans(play, out):
    """The list of the pairs (from, to) of the ticks at which this OUT is on, none over a FIELD's end."""
    play = checked_out(play, out)
    return spans_in(is_on_by_tick(play, out), [begin for begin, _ in fields_of(play)])


def holders(play, out, tick):
    """The set of the LINES of this OUT that are "on" behind this tick."""
    play = checked_out(play, out)
    if not 0 <= tick < play[3]:
        raise NoTick(tick)
    stand = stands_of(play)[tick]
    rows = list(zip(play[0][2], stand[5]))
    return tuple([number for number, (line, own) in enumerate(rows) if line[5] == out and own[0] == "on"])


def comes_on(play, out):
    """The list with, for each FIELD, the tick at which this OUT comes on, or None."""
    play = checked_out(play, out)
    held = is_on_by_tick(play, out)
    return [min([tick for tick in range(begin, end) if held[tick]], default=None) for begin, end in fields_of(play)]


def sure_ticks(play, out):
    """The list of the ticks at which an OUT sounds whatever quiets are put in; tuples throughout."""
    house = play[0]
    stands = stands_of(play)
    on = [tick for tick, stand in enumerate(stands) if stand[7][out] is not None]
    # A quiet comes behind all DEEDS of its tick, so nothing but a new knock undoes it at once.
    return [tick for tick in on if house[3][out] == "door" or fresh_zones(house, stands[tick], tick)]


def must_sound(play, out):
    """The set of the ticks at which this OUT sounds whatever quiets are put in."""
    return tuple(sure_ticks(checked_out(play, out), out))


def mute_behind(deeds, mute):
    """Whether it is mute behind these DEEDS, if nothing is knocked, having been so or not ahead of them."""
    words = [deed[0] for deed in deeds if deed[0] in ("quiet", "sound", "back")]
    return words[-1] == "quiet" if words else mute


def quiet_ticks(play, out):
    """The set of the fewest ticks for quiets, each as late as can be, with which this OUT never sounds."""
    play = checked_out(play, out)
    if sure_ticks(play, out):
        raise CanNot()
    house, _, deeds, _ = play
    found = []
    mute = False
    for tick, stand in enumerate(stands_of(play)):
        mute = mute_behind(deeds_at(deeds, tick), mute)
        if fresh_zones(house, stand, tick):
            mute = False
        if stand[7][out] is not None and not mute:
            found.append(tick)
            mute = True
    return tuple(found)


def stand_at_back(play, begin, place):
    """The STAND at the DEED of this place, told for tick begin, ahead of it; tuples throughout."""
    house, speech, deeds, _ = play
    stand = ([new_stand(house)] + stands_of((house, speech, deeds, begin)))[-1]
    for tick, deed in deeds[:place]:
        if tick == begin:
            stand = behind_deed(house, stand, deed)
    return stand


def without_more(house, numbers):
    """The HOUSE with more 0 in these LINES."""
    lines = [line[:6] + (0,) + line[7:] if number in numbers else line for number, line in enumerate(house[2])]
    return house[:2] + (tuple(lines),) + house[3:]


def field_play(play, number):
    """The fresh PLAY of this FIELD, to its end."""
    play = checked_play(play)
    house, speech, deeds, _ = play
    rows = fields_of(play)
    if not 0 <= number < len(rows):
        raise NoTick(number)
    begin, end = rows[number]
    backs = [place for place, (tick, deed) in enumerate(deeds) if tick == begin and deed[0] == "back"]
    stand = stand_at_back(play, begin, backs[-1]) if backs else new_stand(house)
    faults, offs, parted = stand[:3]
    asked = [line for line in stand[6] if house[2][line][7] == 0]
    told = [("harm", own) for own in faults] + [("off", own) for own in offs] + [("part", own) for own in parted]
    rest = deeds[backs[-1] + 1:] if backs else deeds
    return (
        without_more(house, asked),
        told_from(speech, begin),
        tuple([(begin, deed) for deed in told] + [(tick, deed) for tick, deed in rest if tick < end]),
        end,
    )


def check_calm(house):
    """Raises Unfit for a HOUSE that does not rise, or has several panels."""
    if not rises(house) or house[4] != 1:
        raise Unfit()


def line_first(house, begins, line):
    """The tick at which a LINE, told as a tuple, first begins by BEGINS; None for never; tuples throughout."""
    return line_begin(line, times_by(house, ticks_by_spot(begins)))


def latest_deeds(line, begin, backs, asks):
    """The pair of the latest tick at which a LINE that begins so is first on, and DEEDS by which, without its number.

    Each set-back, at its end, makes it wait anew; it can be asked once in all, or once behind each set-back.
    """
    wait, more, again = line[3], line[6], line[7]
    end = begin + wait
    found = []
    # Without a wait it is on as it begins, and nothing can be done.
    for number in range(backs + 1 if wait else 0):
        if asks > 0 and (again == 1 or number == 0):
            found.append((end, "more"))
            end += more
            asks -= 1
        if number < backs:
            found.append((end, "back"))
            end += wait
    return end, found


def checked_begin(house, begins, line):
    """The first begin of this LINE by these BEGINS, None for never; raises Unfit, NoLine; tuples throughout."""
    check_calm(house)
    check_line(house, line)
    return line_first(house, begins, house[2][line])


def latest_first(house, begins, line, backs, asks):
    """The latest tick at which this LINE is first on FOR ALL DEEDS of so many backs and asks; None for never."""
    house = frozen(house)
    begin = checked_begin(house, frozen(begins), line)
    return None if begin is None else latest_deeds(house[2][line], begin, backs, asks)[0]


def late_deeds(house, begins, line, backs, asks):
    """DEEDS by which this LINE is first on as late as latest_first tells."""
    house = frozen(house)
    begin = checked_begin(house, frozen(begins), line)
    if begin is None:
        raise CanNot()
    told = latest_deeds(house[2][line], begin, backs, asks)[1]
    return tuple([(tick, ("more", line) if word == "more" else (word,)) for tick, word in told])


def are_backs_and_asks(line, backs, asks, thing):
    """Whether thing is DEEDS of at most so many backs, and mores of this LINE alone."""
    if not isinstance(thing, tuple) or not all([is_tuple(own, 2) and is_number(own[0]) for own in thing]):
        return False
    if not all([one[0] <= other[0] for one, other in zip(thing, thing[1:])]):
        return False
    mores = [deed for _, deed in thing if is_tuple(deed, 2) and deed[0] == "more" and is_number(deed[1])]
    mores = [deed for deed in mores if deed[1] == line]
    done = [deed for _, deed in thing if deed == ("back",)]
    return len(mores) <= asks and len(done) <= backs and len(mores) + len(done) == len(thing)


def first_on_by(line, begin, deeds):
    """When a LINE, told as a tuple, that first begins so, is first on by DEEDS of backs and its own mores."""
    first, end = begin, begin + line[3]
    asked = False
    for tick, deed in deeds:
        if tick > end:
            return end
        if deed[0] == "back":
            begin = max(first, tick)
            end = begin + line[3]
            asked = asked and line[7] == 0
        elif tick > begin and not asked:
            end += line[6]
            asked = True
    return end


def are_late_deeds(house, begins, line, backs, asks, thing):
    """Whether thing is such DEEDS, by which this LINE is first on as late as latest_first tells."""
    house = frozen(house)
    begin = checked_begin(house, frozen(begins), line)
    if begin is None or not are_backs_and_asks(line, backs, asks, thing):
        return False
    own = house[2][line]
    return first_on_by(own, begin, thing) == latest_deeds(own, begin, backs, asks)[0]


def out_rounds(house, begins, out, backs):
    """The list of the ticks at which an OUT is on with 0, 1, .. backs, each at the tick ahead of it; [] for never."""
    check_calm(house)
    check_out(house, out)
    told = [(line_first(house, begins, line), line[3]) for line in house[2] if line[5] == out]
    called = [(begin, wait) for begin, wait in told if begin is not None]
    if not called:
        return []
    ticks = [min([begin + wait for begin, wait in called])]
    # The later a back, up to the tick at which the OUT would be on, the later is all behind it.
    for _ in range(backs):
        ticks.append(min([max(begin, ticks[-1]) + wait for begin, wait in called]))
    return ticks


def out_latest(house, begins, out, backs):
    """The latest tick at which this OUT is first on FOR ALL DEEDS of so many backs; None for never."""
    ticks = out_rounds(frozen(house), frozen(begins), out, backs)
    return ticks[-1] if ticks else None


def out_backs(house, begins, out, backs):
    """The set of the ticks of as few backs as it takes for that, each as late as can be; () for None."""
    ticks = out_rounds(frozen(house), frozen(begins), out, backs)
    return tuple([one for one, other in zip(ticks, ticks[1:]) if one < other])
