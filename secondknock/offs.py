"""Put-offs and mixed lots: least LOTS by which ZONES are dumb, and put-offs that no fire feels."""

from secondknock.errors import NoPlace, TooMany
from secondknock.faults import end_pairs, faults_of, least_deaf, least_gain, plain_mishap, told_on
from secondknock.forms import ticks_by_spot
from secondknock.houses import are_feelers, bells, check_out, check_zone, feelers
from secondknock.plays import deeds_at
from secondknock.rings import are_faults, heard_pieces, heard_spots
from secondknock.rising import check_rises
from secondknock.ticks import behind_deed, counters, new_stand
from secondknock.values import (
    as_set,
    frozen,
    greatest_sets,
    is_tuple,
    multiplied,
    subsets,
    without_one,
)
from secondknock.within import least_arrivals, out_tick, ticks_by_arrivals, times_by

MOST_LOTS = 400


def is_dumb(house, zone, faults, offs):
    """Whether a ZONE is dumb with these FAULTS and put-offs; tuples throughout."""
    spots, knocks, _ = house[1][zone]
    there = heard_spots(house[0], faults)
    return len([spot for spot in spots if spot in there and spot not in offs]) < knocks


def dumb_by(house, zone, lot):
    """Whether this ZONE is dumb by this LOT."""
    house = frozen(house)
    check_zone(house, zone)
    faults, offs = frozen(lot)
    return is_dumb(house, zone, faults, offs)


def is_least_lot(house, zone, thing):
    """Whether thing is a least LOT for this ZONE."""
    house = frozen(house)
    check_zone(house, zone)
    if not is_tuple(thing, 2) or not are_faults(house[0], thing[0]) or not are_feelers(house[0], thing[1]):
        return False
    faults, offs = thing
    lesser = [(without_one(faults, own), offs) for own in faults] + [(faults, without_one(offs, own)) for own in offs]
    return is_dumb(house, zone, faults, offs) and not any([is_dumb(house, zone, one, other) for one, other in lesser])


# A KIND of what a LOT has on one RING is a tuple (left, gain, faults, offs): how many SPOTS of the ZONE it leaves
# there; how many more, at the least, without some one of the FAULTS, or None; how many FAULTS and put-offs it has.


def heard_table(ring, number, wanted):
    """A dict: each mishap of at most two FAULTS of this RING, and which wanted PIECES are heard with it."""
    return {
        plain_mishap(near, far): [own for own in heard_pieces(ring[1], near, far) if own in wanted]
        for near, far in end_pairs(ring, number)
    }


def ring_kinds(ring, number, wanted, knocks):
    """A dict: the KINDS that least LOTS may have on this RING, and the list of what is so: pairs (faults, offs).

    Each FAULT takes something away, else it is none of a least LOT; who is put off would be heard.
    """
    table = heard_table(ring, number, wanted)
    kinds = {}
    for faults, there in table.items():
        lefts = [()] + [(own,) for own in there] if knocks == 2 else [()]
        for left in lefts:
            offs = [own for own in there if own not in left]
            without = [table[without_one(faults, fault)] for fault in faults]
            gains = [len([own for own in more if own not in offs]) - len(left) for more in without]
            if not gains or min(gains) > 0:
                kind = (len(left), min(gains, default=None), len(faults), len(offs))
                kinds.setdefault(kind, []).append((faults, tuple([(number, own) for own in offs])))
    return kinds


def kind_tables(house, zone):
    """For each RING of the ZONE's SPOTS its dict of KINDS."""
    spots, knocks, _ = house[1][zone]
    numbers = as_set([number for number, _ in spots])
    return [ring_kinds(house[0][number], number, told_on(spots, number), knocks) for number in numbers]


def lot_mixes(tables, knocks):
    """The list of the tuples of a KIND for each RING that together make a least LOT."""
    mixes = [((), 0, None, 0)]
    for table in tables:
        mixes = [
            (kinds + (kind,), total + kind[0], least_gain(gain, kind[1]), offs + kind[3])
            for kinds, total, gain, offs in mixes
            for kind in table
            if total + kind[0] < knocks
        ]
    return [
        kinds for kinds, total, gain, offs in mixes
        if (gain is None or total + gain >= knocks) and (offs == 0 or total == knocks - 1)
    ]


def mix_count(tables, kinds):
    """How many LOTS are of these KINDS, RING by RING."""
    return multiplied([len(table[kind]) for table, kind in zip(tables, kinds)])


def lots_of_mix(tables, kinds):
    """The list of the LOTS of these KINDS, RING by RING."""
    found = [((), ())]
    for table, kind in zip(tables, kinds):
        found = [(faults + more, offs + own) for faults, offs in found for more, own in table[kind]]
    return [(as_set(faults), as_set(offs)) for faults, offs in found]


def least_lots(house, zone):
    """The list, ascending, of ALL least LOTS for this ZONE."""
    house = frozen(house)
    check_zone(house, zone)
    tables = kind_tables(house, zone)
    mixes = lot_mixes(tables, house[1][zone][1])
    if sum([mix_count(tables, kinds) for kinds in mixes]) > MOST_LOTS:
        raise TooMany()
    return sorted([lot for kinds in mixes for lot in lots_of_mix(tables, kinds)])


def lot_counts(house, zone):
    """The set of the triples (faults, offs, many): how many least LOTS have so many FAULTS and SPOTS."""
    house = frozen(house)
    check_zone(house, zone)
    tables = kind_tables(house, zone)
    counts = {}
    for kinds in lot_mixes(tables, house[1][zone][1]):
        size = (sum([kind[2] for kind in kinds]), sum([kind[3] for kind in kinds]))
        counts[size] = counts.get(size, 0) + mix_count(tables, kinds)
    return tuple([size + (counts[size],) for size in sorted(counts)])


def all_faults(house):
    """The set of all FAULTS that can be on RINGS of a HOUSE."""
    return as_set([fault for number, ring in enumerate(house[0]) for fault in faults_of(ring, number)])


def one_more(house, zone, offs):
    """The set of the FAULTS by each of which alone, offs put off, this ZONE is dumb."""
    house, offs = frozen(house), frozen(offs)
    check_zone(house, zone)
    return tuple([fault for fault in all_faults(house) if is_dumb(house, zone, (fault,), offs)])


def zone_feelers(house):
    """The set of the feelers of ZONES."""
    return as_set([spot for spots, _, _ in house[1] for spot in spots])


def spare_offs(house):
    """The list, ascending, of the greatest sets of feelers of ZONES that may be put off, with any ONE FAULT."""
    house = frozen(house)
    lots = [()] + [(fault,) for fault in all_faults(house)]
    heard_rows = [heard_spots(house[0], faults) for faults in lots]
    # What must be left: so many of these SPOTS, for each ZONE and each FAULT.
    needs = as_set([
        (knocks, tuple([spot for spot in spots if spot in there]))
        for there in heard_rows
        for spots, knocks, _ in house[1]
    ])
    return greatest_sets([
        offs for offs in subsets(zone_feelers(house))
        if all([len([spot for spot in spots if spot not in offs]) >= knocks for knocks, spots in needs])
    ])


def bell_lots(house, out):
    """The list, ascending, of the sets of FAULTS with which no PIECE of this OUT is heard, but one without any one."""
    house = frozen(house)
    check_out(house, out)
    spots = tuple([spot for spot in bells(house) if house[0][spot[0]][1][spot[1]][1] == out])
    # Without any one FAULT is without some, too: those of one RING left out bring back no less together.
    return least_deaf(house[0], spots, 1)


def counts_at(house, begins, deeds):
    """The set of the pairs of a SPOT and the first tick at which it counts; without SPOTS that never do."""
    house, begins, deeds = frozen(house), frozen(begins), frozen(deeds)
    told = [(tick, deed) for tick, deed in deeds if deed[0] in ("off", "on", "harm", "heal")]
    stand = new_stand(house)
    found = {}
    # Who speaks counts for good, until a DEED changes who does: only these ticks and the begins matter.
    for when in as_set([tick for tick, _ in told] + [tick for _, tick in begins]):
        for deed in deeds_at(told, when):
            stand = behind_deed(house, stand, deed)
        begun = [spot for spot, tick in begins if tick <= when]
        for spot in counters(house, stand, begun):
            found.setdefault(spot, when)
    return tuple(sorted(found.items()))


def is_on_at(house, out, ticks, faults, offs, tick):
    """Whether an OUT of a HOUSE that rises is on at a tick, with FAULTS and put-offs from the beginning."""
    there = heard_spots(house[0], faults)
    left = {spot: ticks[spot] for spot in ticks if spot in there and spot not in offs}
    first = out_tick(house, left, out)
    return first is not None and first <= tick


def late_pairs(house, out, begins, tick):
    """The set of the pairs (fault, spot) with which this OUT is not on at this tick, but with each of both alone."""
    house, ticks = frozen(house), ticks_by_spot(frozen(begins))
    check_rises(house)
    check_out(house, out)
    faults = [own for own in all_faults(house) if is_on_at(house, out, ticks, (own,), (), tick)]
    spots = [own for own in zone_feelers(house) if is_on_at(house, out, ticks, (), (own,), tick)]
    return tuple([
        (fault, spot) for fault in faults for spot in spots
        if not is_on_at(house, out, ticks, (fault,), (spot,), tick)
    ])


def start_rows(house, places, ways):
    """For each start the dict of the ticks at which feelers speak by the FIRE from there; NoPlace for their places."""
    named = as_set([house[0][number][1][at][1] for number, at in feelers(house)])
    for place in named:
        if place >= places:
            raise NoPlace(place)
    return [ticks_by_arrivals(house, least_arrivals(places, ways, start)) for start in range(places)]


def are_unfelt(house, rows, offs):
    """Whether these put-offs are unfelt, by the ticks of all starts; tuples throughout."""
    return all([
        times_by(house, {spot: ticks[spot] for spot in ticks if spot not in offs}) == times_by(house, ticks)
        for ticks in rows
    ])


def is_unfelt(house, places, ways, offs):
    """Whether these put-offs are unfelt: FOR ALL starts each ZONE is knocked at the same tick with and without."""
    house, ways, offs = frozen(house), frozen(ways), frozen(offs)
    return are_unfelt(house, start_rows(house, places, ways), offs)


def unfelt_offs(house, places, ways):
    """The list, ascending, of the greatest unfelt sets of feelers of ZONES."""
    house, ways = frozen(house), frozen(ways)
    rows = start_rows(house, places, ways)
    return greatest_sets([offs for offs in subsets(zone_feelers(house)) if are_unfelt(house, rows, offs)])
