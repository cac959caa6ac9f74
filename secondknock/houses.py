"""Houses, speeches, deeds and plays: what is one, what is where, and the same one named anew or turned."""

from secondknock.errors import NoLine, NoOut, NoPanel, NoSpot, NoZone, Unfit
from secondknock.rings import CUT, check_ring, check_spot, is_fault, is_ring, is_spot
from secondknock.values import (
    are_stretches,
    as_set,
    frozen,
    is_ascending,
    is_below,
    is_number,
    is_number_set,
    is_order,
    is_tuple,
    places_in,
)


def is_feeler(rings, thing):
    """Whether thing is the SPOT of a feeler of these RINGS."""
    return is_spot(rings, thing) and rings[thing[0]][1][thing[1]][0] == "feel"


def are_feelers(rings, thing):
    """Whether thing is a set of SPOTS of feelers of these RINGS."""
    return isinstance(thing, tuple) and all([is_feeler(rings, own) for own in thing]) and is_ascending(thing)


def are_outs(thing):
    """Whether thing is a tuple of OUTS."""
    return isinstance(thing, tuple) and all([own in ("bell", "door") for own in thing])


def bells_named(pieces, outs):
    """Whether each PIECE of a bell names an OUT that is one."""
    named = [own[1] for own in pieces if own[0] == "bell"]
    return all([number < len(outs) and outs[number] == "bell" for number in named])


def are_rings(outs, panels, thing):
    """Whether thing is a tuple of RINGS, not (), of panels and of bells that are there."""
    if not isinstance(thing, tuple) or len(thing) == 0:
        return False
    return all([is_ring(own) and own[0] < panels and bells_named(own[1], outs) for own in thing])


def is_zone(rings, thing):
    """Whether thing is a ZONE of feelers of these RINGS, all on RINGS of one panel."""
    if not is_tuple(thing, 3) or not are_feelers(rings, thing[0]) or len(thing[0]) == 0:
        return False
    spots, knocks, stay = thing
    if not is_number(knocks) or not 1 <= knocks <= min(2, len(spots)):
        return False
    own_panels = [rings[number][0] for number, _ in spots]
    return min(own_panels) == max(own_panels) and (stay is None or is_number(stay))


def is_line(zones, outs, panels, thing):
    """Whether thing is a LINE of a HOUSE of these ZONES and OUTS and of so many panels."""
    if not is_tuple(thing, 8):
        return False
    panel, when, own_zones, wait, unless, out, more, again = thing
    if not is_below(panel, panels) or when not in ("any", "all"):
        return False
    if not is_number_set(own_zones, len(zones)) or len(own_zones) == 0 or not is_number_set(unless, len(zones)):
        return False
    return is_number(wait) and is_below(out, len(outs)) and is_number(more) and is_below(again, 2)


def is_house(thing):
    """Whether thing is a HOUSE."""
    if not is_tuple(thing, 5):
        return False
    rings, zones, lines, outs, panels = thing
    if not is_number(panels) or not 1 <= panels <= 3 or not are_outs(outs) or not are_rings(outs, panels, rings):
        return False
    if not isinstance(zones, tuple) or not all([is_zone(rings, own) for own in zones]):
        return False
    return isinstance(lines, tuple) and all([is_line(zones, outs, panels, own) for own in lines])


def are_pairs(rings, thing):
    """Whether thing is a tuple of pairs of a SPOT of a feeler and whatever, the SPOTS ascending."""
    if not isinstance(thing, tuple) or not all([is_tuple(own, 2) for own in thing]):
        return False
    return are_feelers(rings, tuple([own[0] for own in thing]))


def is_speech(house, thing):
    """Whether thing is a SPEECH of feelers of this HOUSE."""
    return are_pairs(frozen(house)[0], thing) and all([are_stretches(own[1]) for own in thing])


def are_ticks_of(rings, thing):
    """Whether thing is a set of pairs of a SPOT of a feeler and a tick, the SPOTS unlike."""
    return are_pairs(rings, thing) and all([is_number(own[1]) for own in thing])


def are_begins(house, thing):
    """Whether thing are BEGINS of feelers of this HOUSE."""
    return are_ticks_of(frozen(house)[0], thing)


def link_count(panels):
    """How many links so many panels have."""
    return 0 if panels == 1 else panels


def is_there(house, word, named):
    """Whether named is what a DEED of this word can name in this HOUSE."""
    rings, _, lines, _, panels = house
    if word in ("off", "on"):
        return is_feeler(rings, named)
    if word in ("harm", "heal"):
        return is_fault(rings, named)
    if word in ("part", "join"):
        return is_below(named, link_count(panels))
    return word == "more" and is_below(named, len(lines))


def is_deed(house, thing):
    """Whether thing is a DEED with SPOTS, LINES, GAPS, links of this HOUSE alone."""
    if is_tuple(thing, 1):
        return thing[0] in ("quiet", "sound", "back")
    return is_tuple(thing, 2) and is_there(frozen(house), thing[0], thing[1])


def are_deeds(house, thing):
    """Whether thing are DEEDS of this HOUSE, told for ticks that never fall."""
    if not isinstance(thing, tuple) or not all([is_tuple(own, 2) and is_number(own[0]) for own in thing]):
        return False
    if not all([one[0] <= other[0] for one, other in zip(thing, thing[1:])]):
        return False
    return all([is_deed(house, own[1]) for own in thing])


def is_play(thing):
    """Whether thing is a PLAY, its HOUSE, SPEECH and DEEDS too."""
    if not is_tuple(thing, 4) or not is_house(thing[0]):
        return False
    house, speech, deeds, many = thing
    return is_speech(house, speech) and are_deeds(house, deeds) and is_number(many)


def check_zone(house, number):
    """Raises NoZone if no ZONE has this number."""
    if not 0 <= number < len(house[1]):
        raise NoZone(number)


def check_line(house, number):
    """Raises NoLine if no LINE has this number."""
    if not 0 <= number < len(house[2]):
        raise NoLine(number)


def check_out(house, number):
    """Raises NoOut if no OUT has this number."""
    if not 0 <= number < len(house[3]):
        raise NoOut(number)


def check_panel(panels, number):
    """Raises NoPanel if there are not so many panels."""
    if not 0 <= number < panels:
        raise NoPanel(number)


def piece_at(house, spot):
    """The PIECE at this SPOT."""
    rings, spot = frozen(house)[0], frozen(spot)
    check_spot(rings, spot)
    return rings[spot[0]][1][spot[1]]


def spots_of(house, word):
    """The set of the SPOTS of the PIECES of this word."""
    rings = frozen(house)[0]
    return tuple([
        (number, at) for number, (_, pieces) in enumerate(rings) for at, own in enumerate(pieces) if own[0] == word
    ])


def feelers(house):
    """The set of the SPOTS of feelers."""
    return spots_of(house, "feel")


def bells(house):
    """The set of the SPOTS of bells."""
    return spots_of(house, "bell")


def cuts(house):
    """The set of the SPOTS of cut-offs."""
    return spots_of(house, CUT[0])


def gaps(house):
    """The set of all GAPS."""
    rings = frozen(house)[0]
    return tuple([(number, gap) for number, (_, pieces) in enumerate(rings) for gap in range(len(pieces) + 1)])


def zones_at(house, spot):
    """The set of the numbers of the ZONES of this feeler."""
    house, spot = frozen(house), frozen(spot)
    if not is_feeler(house[0], spot):
        raise NoSpot(spot)
    return tuple([number for number, own in enumerate(house[1]) if spot in own[0]])


def zone_panel(house, zone):
    """The panel of a ZONE that is there: that of the RING of its SPOTS."""
    ring = house[1][zone][0][0][0]
    return house[0][ring][0]


def panel_of(house, zone):
    """The panel of this ZONE."""
    house = frozen(house)
    check_zone(house, zone)
    return zone_panel(house, zone)


def on_panel(house, panel):
    """The triple of the sets of the numbers of the RINGS, ZONES, LINES of this panel."""
    house = frozen(house)
    check_panel(house[4], panel)
    return (
        tuple([number for number, own in enumerate(house[0]) if own[0] == panel]),
        tuple([number for number in range(len(house[1])) if zone_panel(house, number) == panel]),
        tuple([number for number, own in enumerate(house[2]) if own[0] == panel]),
    )


def lines_to(house, out):
    """The set of the numbers of the LINES with this OUT."""
    house = frozen(house)
    check_out(house, out)
    return tuple([number for number, own in enumerate(house[2]) if own[5] == out])


def callers(house, out):
    """The set of the ZONES that call this OUT."""
    house = frozen(house)
    return as_set([zone for number in lines_to(house, out) for zone in house[2][number][2]])


def barrers(house, out):
    """The set of the ZONES that bar this OUT."""
    house = frozen(house)
    return as_set([zone for number in lines_to(house, out) for zone in house[2][number][4]])


def rises(house):
    """Whether the stay of all ZONES is None and no LINE has an unless."""
    _, zones, lines, _, _ = frozen(house)
    return all([own[2] is None for own in zones]) and all([own[4] == () for own in lines])


def one_mind(house):
    """Whether no OUT has a ZONE that both calls and bars it."""
    house = frozen(house)
    both_ways = [zone for out in range(len(house[3])) for zone in callers(house, out) if zone in barrers(house, out)]
    return both_ways == []


def check_orders(house, rings, zones, lines, outs):
    """Raises Unfit if one of these is no ORDER of what the HOUSE has of the kind."""
    for order, row in zip((rings, zones, lines, outs), house):
        if not is_order(order, len(row)):
            raise Unfit()


# NAMES are five dicts: SPOTS, GAPS, ZONES, LINES and OUTS as they are called, and as they will be.


def names_anew(house, rings, zones, lines, outs):
    """The NAMES by these ORDERS."""
    place = places_in(rings)
    spots = {(number, at): (place[number], at) for number, own in enumerate(house[0]) for at in range(len(own[1]))}
    ways = {(number, at): (place[number], at) for number, at in gaps(house)}
    return spots, ways, places_in(zones), places_in(lines), places_in(outs)


def names_turned(house, ring):
    """The NAMES if this RING is told from B to A."""
    orders = [list(range(len(own))) for own in house[:4]]
    spots, ways, zones, lines, outs = names_anew(house, *orders)
    many = len(house[0][ring][1])
    for at in range(many):
        spots[(ring, at)] = (ring, many - 1 - at)
    for at in range(many + 1):
        ways[(ring, at)] = (ring, many - at)
    return spots, ways, zones, lines, outs


def piece_named(piece, names):
    """The PIECE by these NAMES."""
    return ("bell", names[4][piece[1]]) if piece[0] == "bell" else piece


def zone_named(zone, names):
    """The ZONE by these NAMES."""
    return (as_set([names[0][spot] for spot in zone[0]]),) + zone[1:]


def line_named(line, names):
    """The LINE by these NAMES."""
    panel, when, zones, wait, unless, out, more, again = line
    zones, unless = as_set([names[2][own] for own in zones]), as_set([names[2][own] for own in unless])
    return (panel, when, zones, wait, unless, names[4][out], more, again)


def deed_named(deed, names):
    """The DEED by these NAMES."""
    if deed[0] in ("off", "on"):
        return (deed[0], names[0][deed[1]])
    if deed[0] in ("harm", "heal"):
        word, gap = deed[1]
        return (deed[0], (word, names[1][gap]))
    return ("more", names[3][deed[1]]) if deed[0] == "more" else deed


def play_named(play, house, names):
    """The PLAY of a HOUSE that is already named so, its SPEECH and DEEDS by these NAMES."""
    _, speech, deeds, many = play
    speech = {names[0][spot]: stretches for spot, stretches in speech}
    return (
        house,
        tuple([(spot, speech[spot]) for spot in sorted(speech)]),
        tuple([(tick, deed_named(deed, names)) for tick, deed in deeds]),
        many,
    )


def anew(house, rings, zones, lines, outs):
    """The HOUSE named anew by these ORDERS."""
    house = frozen(house)
    check_orders(house, rings, zones, lines, outs)
    names = names_anew(house, rings, zones, lines, outs)
    named = [(panel, tuple([piece_named(own, names) for own in pieces])) for panel, pieces in house[0]]
    return (
        tuple([named[number] for number in rings]),
        tuple([zone_named(house[1][number], names) for number in zones]),
        tuple([line_named(house[2][number], names) for number in lines]),
        tuple([house[3][number] for number in outs]),
        house[4],
    )


def spot_anew(house, rings, spot):
    """The SPOT if the RINGS are named anew by this ORDER."""
    own_rings, spot = frozen(house)[0], frozen(spot)
    check_spot(own_rings, spot)
    if not is_order(rings, len(own_rings)):
        raise Unfit()
    return (places_in(rings)[spot[0]], spot[1])


def play_anew(play, rings, zones, lines, outs):
    """The PLAY named anew by these ORDERS, its HOUSE, SPEECH and DEEDS."""
    play = frozen(play)
    house = anew(play[0], rings, zones, lines, outs)
    return play_named(play, house, names_anew(play[0], rings, zones, lines, outs))


def turned_house(house, ring):
    """The HOUSE with this RING told from B to A, SPOTS led along."""
    house = frozen(house)
    check_ring(house[0], ring)
    panel, pieces = house[0][ring]
    names = names_turned(house, ring)
    rings = house[0][:ring] + ((panel, pieces[::-1]),) + house[0][ring + 1:]
    return (rings, tuple([zone_named(own, names) for own in house[1]])) + house[2:]


def turned_play(play, ring):
    """The PLAY with this RING of its HOUSE told from B to A, SPOTS and GAPS led along."""
    play = frozen(play)
    return play_named(play, turned_house(play[0], ring), names_turned(play[0], ring))
