"""One tick of a house: deeds, feelers that count, zones knocked and seen, lines and outs."""

from secondknock.errors import NoGap, NoLine, NoPanel, NoSpot
from secondknock.houses import are_feelers, are_ticks_of, is_there, link_count, spots_of, zone_panel
from secondknock.islands import island_rows
from secondknock.rings import are_faults, hears
from secondknock.values import as_set, frozen, is_number, is_number_set, is_tuple, without_one

IDLE = ("idle", None, None)


def check_deed(house, deed):
    """Raises NoSpot, NoGap, NoLine or NoPanel if this DEED names what is not there."""
    if len(deed) == 1 or is_there(house, deed[0], deed[1]):
        return
    word, named = deed
    if word in ("off", "on"):
        raise NoSpot(named)
    if word in ("harm", "heal"):
        raise NoGap(named[1])
    if word == "more":
        raise NoLine(named)
    raise NoPanel(named)


def check_deeds(house, deeds):
    """Raises the error of the first of these DEEDS, without ticks, that names what is not there."""
    for deed in deeds:
        check_deed(house, deed)


def new_stand(house):
    """The STAND at the beginning; tuples throughout."""
    _, zones, lines, outs, panels = house
    seen = tuple([tuple([None for _ in zones]) for _ in range(panels)])
    return ((), (), (), (), seen, tuple([IDLE for _ in lines]), (), tuple([None for _ in outs]), False)


def fresh_stand(house):
    """The STAND at the beginning."""
    return new_stand(frozen(house))


def is_tick(thing):
    """Whether thing is a tick or None."""
    return thing is None or is_number(thing)


def are_ticks(thing, many):
    """Whether thing is a tuple of so many ticks or None."""
    return is_tuple(thing, many) and all([is_tick(own) for own in thing])


def is_line_state(thing):
    """Whether thing is a triple (state, begin, end) of a LINE."""
    if not is_tuple(thing, 3):
        return False
    state, begin, end = thing
    if state == "idle":
        return begin is None and end is None
    return state in ("waits", "on", "barred") and is_number(begin) and is_number(end) and begin <= end


def is_stand(house, thing):
    """Whether thing is made like a STAND of house."""
    rings, zones, lines, outs, panels = frozen(house)
    if not is_tuple(thing, 9):
        return False
    faults, offs, parted, counted, seen, told, asked, begun, mute = thing
    if not are_faults(rings, faults) or not are_feelers(rings, offs):
        return False
    if not is_number_set(parted, link_count(panels)) or not are_ticks_of(rings, counted):
        return False
    if not is_tuple(seen, panels) or not all([are_ticks(own, len(zones)) for own in seen]):
        return False
    if not is_tuple(told, len(lines)) or not all([is_line_state(own) for own in told]):
        return False
    return is_number_set(asked, len(lines)) and are_ticks(begun, len(outs)) and isinstance(mute, bool)


def speakers(speech, tick):
    """The set of the SPOTS that speak; tuples throughout."""
    return tuple([
        spot for spot, stretches in speech if any([a <= tick and (b is None or tick < b) for a, b in stretches])
    ])


def speaking(speech, tick):
    """The set of the SPOTS that speak at this tick."""
    return speakers(frozen(speech), tick)


def does_change(stand, deed):
    """Whether a DEED that names what is there is not passed over."""
    faults, offs, parted = stand[:3]
    word = deed[0]
    if word in ("off", "on"):
        return (deed[1] in offs) == (word == "on")
    if word == "harm":
        return deed[1][1] not in [own[1] for own in faults]
    if word == "heal":
        return deed[1] in faults
    if word in ("part", "join"):
        return (deed[1] in parted) == (word == "join")
    if word == "more":
        return stand[5][deed[1]][0] == "waits" and deed[1] not in stand[6]
    return True


def can_do(house, stand, deed):
    """Whether this DEED is not passed over."""
    deed = frozen(deed)
    check_deed(frozen(house), deed)
    return does_change(frozen(stand), deed)


def set_back(house, stand):
    """The STAND behind a back: LINES with again 1 are not asked any more."""
    asked = tuple([number for number in stand[6] if house[2][number][7] == 0])
    fresh = new_stand(house)
    return stand[:3] + fresh[3:6] + (asked,) + fresh[7:]


def with_more(house, stand, number):
    """The STAND behind a more of this LINE."""
    state, begin, end = stand[5][number]
    told = list(stand[5])
    told[number] = (state, begin, end + house[2][number][6])
    return stand[:5] + (tuple(told), as_set(stand[6] + (number,))) + stand[7:]


def changed(row, member, comes):
    """The set with this member more, or less."""
    return as_set(row + (member,)) if comes else without_one(row, member)


def behind_deed(house, stand, deed):
    """The STAND behind a DEED that names what is there; tuples throughout."""
    if not does_change(stand, deed):
        return stand
    faults, offs, parted = stand[:3]
    word = deed[0]
    if word in ("off", "on"):
        return (faults, changed(offs, deed[1], word == "off")) + stand[2:]
    if word in ("harm", "heal"):
        return (changed(faults, deed[1], word == "harm"),) + stand[1:]
    if word in ("part", "join"):
        return (faults, offs, changed(parted, deed[1], word == "part")) + stand[3:]
    if word == "more":
        return with_more(house, stand, deed[1])
    if word == "back":
        return set_back(house, stand)
    return stand[:8] + (word == "quiet",)


def after_deed(house, stand, deed):
    """The STAND behind this DEED: stand if it is passed over."""
    house, deed = frozen(house), frozen(deed)
    check_deed(house, deed)
    return behind_deed(house, frozen(stand), deed)


def counters(house, stand, spots):
    """The set of those of spots that count; tuples throughout."""
    faults, offs = stand[:2]
    return tuple([spot for spot in spots if spot not in offs and hears(house[0], faults, spot)])


def counting(house, stand, spots):
    """The set of those of spots that are heard and not put off."""
    return counters(frozen(house), frozen(stand), frozen(spots))


def knocked_zones(house, seen):
    """The set of the ZONES that their own panels see."""
    return tuple([number for number in range(len(house[1])) if seen[zone_panel(house, number)][number] is not None])


def newly_knocked(house, seen, last, tick):
    """The set of the ZONES knocked newly at this tick, by a dict of the last tick at which each SPOT counted."""
    there = knocked_zones(house, seen)
    found = []
    for number, (spots, knocks, stay) in enumerate(house[1]):
        counted = [last[spot] for spot in spots if spot in last]
        lasting = [own for own in counted if stay is None or tick - stay <= own <= tick]
        if number not in there and len(lasting) >= knocks:
            found.append(number)
    return tuple(found)


def seen_from(house, parted, seen, fresh, tick):
    """What each panel sees behind a tick at which these ZONES are knocked newly."""
    there = knocked_zones(house, seen) + fresh
    rows = island_rows(house[4], parted)
    own_panels = [zone_panel(house, number) for number in range(len(house[1]))]
    return tuple([
        tuple([
            tick if since is None and number in there and own_panels[number] in rows[panel] else since
            for number, since in enumerate(sight)
        ])
        for panel, sight in enumerate(seen)
    ])


def line_behind(line, told, sight, tick):
    """The triple (state, begin, end) of a LINE behind a tick, its panel seeing so."""
    state, begin, end = told
    called = [sight[zone] is not None for zone in line[2]]
    if state == "idle" and (all(called) if line[1] == "all" else any(called)):
        state, begin, end = "waits", tick, tick + line[3]
    if state == "waits" and end <= tick:
        barred = any([sight[zone] is not None for zone in line[4]])
        state = "barred" if barred else "on"
    return (state, begin, end)


def outs_behind(house, told, behind, outs, tick):
    """The ticks since which the OUTS are on, LINES going from told to behind at this tick."""
    ended = [
        line[5]
        for line, own, later in zip(house[2], told, behind)
        if own[0] != "on" and later[0] == "on"
    ]
    return tuple([
        tick if since is None and number in ended else since for number, since in enumerate(outs)
    ])


def behind_tick(house, stand, deeds, spots, tick):
    """The STAND behind a tick, its DEEDS naming only what is there; tuples throughout."""
    for deed in deeds:
        stand = behind_deed(house, stand, deed)
    faults, offs, parted, counted, seen, told, asked, outs, mute = stand
    last = {spot: when for spot, when in counted}
    for spot in counters(house, stand, spots):
        last[spot] = tick
    fresh = newly_knocked(house, seen, last, tick)
    seen = seen_from(house, parted, seen, fresh, tick)
    behind = tuple([line_behind(line, own, seen[line[0]], tick) for line, own in zip(house[2], told)])
    outs = outs_behind(house, told, behind, outs, tick)
    counted = tuple(sorted(last.items()))
    return (faults, offs, parted, counted, seen, behind, asked, outs, mute and fresh == ())


def after_tick(house, stand, deeds, spots, tick):
    """The STAND behind this tick, with these DEEDS, at which these SPOTS speak."""
    house, deeds = frozen(house), frozen(deeds)
    check_deeds(house, deeds)
    return behind_tick(house, frozen(stand), deeds, frozen(spots), tick)


def knocked(house, stand):
    """The set of the ZONES that are knocked."""
    return knocked_zones(frozen(house), frozen(stand)[4])


def sounding_outs(house, stand):
    """The set of the OUTS that sound; tuples throughout."""
    outs, mute = stand[7:]
    return tuple([
        number for number, since in enumerate(outs) if since is not None and not (mute and house[3][number] == "bell")
    ])


def sounding(house, stand):
    """The set of the OUTS that sound."""
    return sounding_outs(frozen(house), frozen(stand))


def ringing(house, stand):
    """The set of the SPOTS of bells that ring."""
    house, stand = frozen(house), frozen(stand)
    loud = sounding_outs(house, stand)
    rings, faults = house[0], stand[0]
    return tuple([
        spot
        for spot in spots_of(house, "bell")
        if rings[spot[0]][1][spot[1]][1] in loud and hears(rings, faults, spot)
    ])


def most_patient(house):
    """The patience of a HOUSE; tuples throughout."""
    stays = [stay for _, _, stay in house[1] if stay is not None]
    return max(stays + [line[3] + line[6] for line in house[2]], default=0)


def patience(house):
    """The greatest of all stays that are numbers, and of wait and more added up of each LINE; 0 without any."""
    return most_patient(frozen(house))


def aged(house, stand, tick):
    """The AGED stand behind this tick."""
    house, stand = frozen(house), frozen(stand)
    faults, offs, parted, counted, seen, told, asked, outs, mute = stand
    most = most_patient(house) + 1
    return (
        faults,
        offs,
        parted,
        tuple([(spot, min(tick - when, most)) for spot, when in counted]),
        tuple([tuple([since is not None for since in sight]) for sight in seen]),
        tuple([(state, end - tick if state == "waits" else 0) for state, _, end in told]),
        asked,
        tuple([since is not None for since in outs]),
        mute,
    )
