"""Stretches of speech: knocks that come or go by as feelers speak, last and fall silent, FOR ALL speeches."""

from math import comb

from secondknock.errors import CanNot, NoSpot
from secondknock.faults import end_pairs, gaps_between, told_on
from secondknock.forms import ticks_by_spot
from secondknock.houses import check_zone
from secondknock.rings import heard_pieces
from secondknock.values import (
    are_stretches,
    as_set,
    frozen,
    is_ascending,
    is_number_pair,
    is_tuple,
    lies_in,
    power,
)


def span_of(stretch, stay):
    """The pair (from, last) of the ticks at which a SPOT with this stretch lasts; None without a last one."""
    begin, end = stretch
    return (begin, None if end is None or stay is None else end - 1 + stay)


def spans_of(zone, speech):
    """A dict: the SPOTS of a ZONE that ever speak, and the list of the spans of their stretches."""
    spots, _, stay = zone
    return {spot: [span_of(own, stay) for own in stretches] for spot, stretches in speech if spot in spots}


def is_in_span(span, tick):
    """Whether it lasts at this tick."""
    return span[0] <= tick and (span[1] is None or tick <= span[1])


def first_knock(knocks, spans):
    """The first tick at which so many unlike SPOTS last; None if never."""
    for tick in as_set([span[0] for own in spans.values() for span in own]):
        lasting = [spot for spot in spans if any([is_in_span(span, tick) for span in spans[spot]])]
        if len(lasting) >= knocks:
            return tick
    return None


def knock_of(zone, speech):
    """The tick at which a ZONE is knocked by a SPEECH; None if never; tuples throughout."""
    return first_knock(zone[1], spans_of(zone, speech))


def knocked_at(zone, speech):
    """The tick at which this ZONE is knocked by this SPEECH; None if never."""
    return knock_of(frozen(zone), frozen(speech))


def told_from(speech, tick):
    """The SPEECH from a tick on, as if nothing had been told ahead of it."""
    found = []
    for spot, stretches in speech:
        left = tuple([(max(begin, tick), end) for begin, end in stretches if end is None or end > tick])
        if left:
            found.append((spot, left))
    return tuple(found)


def knocked_anew(zone, speech, backs):
    """The tuple of the first ticks from 0, then from each of backs on, ahead of the next one; None for none."""
    zone, speech, backs = frozen(zone), frozen(speech), frozen(backs)
    found = []
    for begin, end in zip((0,) + backs, backs + (None,)):
        tick = knock_of(zone, told_from(speech, begin))
        found.append(tick if tick is not None and (end is None or tick < end) else None)
    return tuple(found)


def stay_between(one, other):
    """The least stay with which two stretches last at one tick."""
    first, second = sorted([one, other], key=lambda own: own[0])
    return 0 if first[1] is None else max(0, second[0] - (first[1] - 1))


def stay_for(zone, speech):
    """The least stay with which a SPEECH knocks a ZONE; CanNot if none does."""
    spots, knocks, _ = zone
    own = [(spot, stretch) for spot, stretches in speech if spot in spots for stretch in stretches]
    stays = [0 for _ in own]
    if knocks == 2:
        stays = [stay_between(one, other) for spot, one in own for mate, other in own if spot < mate]
    if not stays:
        raise CanNot()
    return min(stays)


def least_stay(zone, speeches):
    """The least stay with which each of these SPEECHES knocks this ZONE."""
    zone = frozen(zone)
    return max([stay_for(zone, speech) for speech in frozen(speeches)])


def check_own(zone, spot):
    """Raises NoSpot if this is none of the ZONE's SPOTS."""
    if spot not in zone[0]:
        raise NoSpot(spot)


def is_sooner(tick, other):
    """Whether the one tick is ahead of the other one; None is behind all."""
    return tick is not None and (other is None or tick < other)


def helps(zone, speech, spot, many):
    """The set of the ticks below many at which this SPOT, speaking then too, has the ZONE knocked sooner, or at all."""
    zone, speech, spot = frozen(zone), frozen(speech), frozen(spot)
    check_own(zone, spot)
    spans = spans_of(zone, speech)
    plain = first_knock(zone[1], spans)
    found = []
    for tick in range(many):
        more = {own: spans[own] for own in spans}
        more[spot] = spans.get(spot, []) + [span_of((tick, tick + 1), zone[2])]
        if is_sooner(first_knock(zone[1], more), plain):
            found.append(tick)
    return tuple(found)


def with_stretch(speech, spot, number, stretch):
    """The SPEECH with this stretch in the place of the one of this number of this SPOT."""
    return tuple([
        (own, stretches[:number] + (stretch,) + stretches[number + 1:] if own == spot else stretches)
        for own, stretches in speech
    ])


def room(zone, speech, spot, number):
    """The pair of the greatest begin, or None, and the least end of this stretch with which the knock's tick stays."""
    zone, speech, spot = frozen(zone), frozen(speech), frozen(spot)
    check_own(zone, spot)
    tick = knock_of(zone, speech)
    stretches = ticks_by_spot(speech).get(spot, ())
    if tick is None or not 0 <= number < len(stretches):
        raise CanNot()
    begin, end = stretches[number]
    # What begins behind the knock, or ends behind it, does not matter to it.
    last = max(begin, tick) + 2 if end is None else end
    begins = [
        own for own in range(begin, last)
        if knock_of(zone, with_stretch(speech, spot, number, (own, end))) == tick
    ]
    ends = [
        own for own in range(begin + 1, last + 1)
        if knock_of(zone, with_stretch(speech, spot, number, (begin, own))) == tick
    ]
    return (None if end is None and last - 1 in begins else max(begins), min(ends))


def never_behind(zone, other):
    """Whether this ZONE is never knocked later than the other one FOR ALL SPEECHES."""
    (spots, knocks, stay), (own_spots, own_knocks, own_stay) = frozen(zone), frozen(other)
    missing = [spot for spot in own_spots if spot not in spots]
    if knocks == 1:
        return len(missing) < own_knocks
    if own_knocks == 1 or missing:
        return False
    return stay is None or (own_stay is not None and own_stay <= stay)


def parting_speech(zone, other):
    """A SPEECH by which this ZONE is knocked later than the other one, or the other one alone."""
    zone, other = frozen(zone), frozen(other)
    if never_behind(zone, other):
        raise CanNot()
    # At most one SPOT that zone has, too, is among the first ones then, unless it has all of other's.
    spots = sorted(other[0], key=lambda spot: (spot in zone[0], spot))[:other[1]]
    later = 0
    if other[1] == 2 and lies_in(other[0], zone[0]):
        later = zone[2] + 1
    ticks = {spot: later if at == 1 else 0 for at, spot in enumerate(spots)}
    return tuple([(spot, ((ticks[spot], ticks[spot] + 1),)) for spot in sorted(ticks)])


def is_any_speech(thing):
    """Whether thing is a SPEECH, of whatever SPOTS."""
    if not isinstance(thing, tuple) or not all([is_tuple(own, 2) for own in thing]):
        return False
    if not all([is_number_pair(spot) and are_stretches(stretches) for spot, stretches in thing]):
        return False
    return is_ascending([spot for spot, _ in thing])


def is_parting_speech(zone, other, thing):
    """Whether thing is a SPEECH by which this ZONE is knocked later than the other one, or that alone."""
    return is_any_speech(thing) and is_sooner(knocked_at(other, thing), knocked_at(zone, thing))


def last_spoken(stretches, tick):
    """The last tick up to this one at which these stretches have it speak; None without."""
    begun = [(begin, end) for begin, end in stretches if begin <= tick]
    if not begun:
        return None
    end = begun[-1][1]
    return tick if end is None or end > tick else end - 1


def rest_behind(zone, stretches, tick):
    """How many ticks more a SPOT with these stretches lasts behind this tick; with stay None 1 if it has spoken."""
    last, stay = last_spoken(stretches, tick), zone[2]
    if last is None:
        return 0
    return 1 if stay is None else max(0, last + stay - tick)


def echo_behind(zone, speech, tick):
    """The ECHO of this ZONE behind this tick."""
    zone, speech = frozen(zone), frozen(speech)
    knock = knock_of(zone, speech)
    if knock is not None and knock <= tick:
        return None
    told = ticks_by_spot(speech)
    return tuple([rest_behind(zone, told.get(spot, ()), tick) for spot in zone[0]])


def fresh_rest(zone):
    """How many ticks more a SPOT lasts behind one at which it speaks; with stay None 1."""
    return 1 if zone[2] is None else zone[2]


def faded(zone, rest):
    """How many ticks more a SPOT lasts behind one more at which it is silent."""
    return rest if zone[2] is None else max(0, rest - 1)


def echo_after(zone, echo, spoken):
    """The ECHO behind one more tick, at which the SPOTS of these numbers speak."""
    if echo is None or len([at for at, rest in enumerate(echo) if rest > 0 or at in spoken]) >= zone[1]:
        return None
    return tuple([fresh_rest(zone) if at in spoken else faded(zone, rest) for at, rest in enumerate(echo)])


def rest_apart(zone, echo, other):
    """The least of the shortest TALKS behind which just one of two ECHOES is knocked; None if they are one."""
    zone, echo, other = frozen(zone), frozen(echo), frozen(other)
    if echo == other:
        return None
    talk = ()
    # Two that speak at once knock both; one that knocks neither leaves them alike: else all are silent.
    while (echo is None) == (other is None):
        for at in range(len(zone[0])):
            if (echo_after(zone, echo, (at,)) is None) != (echo_after(zone, other, (at,)) is None):
                return talk + ((at,),)
        echo, other = echo_after(zone, echo, ()), echo_after(zone, other, ())
        talk = talk + ((),)
    return talk


def silent_rows(zone, many):
    """For 0 to many ticks the list, by how many ticks more one SPOT lasts, of how many TALKS never knock it."""
    spots, knocks, _ = zone
    fresh = fresh_rest(zone)
    # Who lasts may speak alone; if none does, each may.
    talkers = [0 if knocks == 1 else len(spots) if rest == 0 else 1 for rest in range(fresh + 1)]
    rows = [[1 for _ in talkers]]
    for _ in range(many):
        last = rows[-1]
        rows.append([last[faded(zone, rest)] + own * last[fresh] for rest, own in enumerate(talkers)])
    return rows


def silent_talks(zone, many):
    """How many TALKS of so many ticks never knock this ZONE."""
    return silent_rows(frozen(zone), many)[many][0]


def silent_talk(zone, many, number):
    """The TALK of so many ticks with this number, ascending, of those that never knock this ZONE."""
    zone = frozen(zone)
    rows = silent_rows(zone, many)
    if not 0 <= number < rows[many][0]:
        raise CanNot()
    talk = ()
    speaker, rest = None, 0
    for left in range(many - 1, -1, -1):
        silent, loud = rows[left][faded(zone, rest)], rows[left][fresh_rest(zone)]
        if number < silent:
            rest = faded(zone, rest)
            talk = talk + ((),)
        else:
            if rest == 0:
                speaker, number = (number - silent) // loud, (number - silent) % loud
            else:
                number = number - silent
            rest = fresh_rest(zone)
            talk = talk + ((speaker,),)
    return talk


def sizes_with(near, far):
    """The list of the pairs (how many FAULTS, how many mishaps) of one RING with these first FAULTS, or None."""
    if near is None or near == far:
        return [(0 if near is None else 1, 1)]
    between = gaps_between(near, far)
    return [(2 + more, comb(between, more) * power(2, more)) for more in range(between + 1)]


def heard_by_size(ring, number, wanted, most):
    """A dict: how many FAULTS, to most, and which wanted SPOTS are heard; how many mishaps of a RING are so."""
    table = {}
    for near, far in end_pairs(ring, number):
        there = tuple([(number, own) for own in heard_pieces(ring[1], near, far) if own in wanted])
        for size, many in sizes_with(near, far):
            if size <= most:
                table[(size, there)] = table.get((size, there), 0) + many
    return table


def heard_lots(house, spots, most):
    """Such a dict for all RINGS of these SPOTS together."""
    lots = {(0, ()): 1}
    for number in as_set([ring for ring, _ in spots]):
        table = heard_by_size(house[0][number], number, told_on(spots, number), most)
        longer = {}
        for (used, there), many in lots.items():
            for (size, more), own in table.items():
                if used + size <= most:
                    key = (used + size, there + more)
                    longer[key] = longer.get(key, 0) + many * own
        lots = longer
    return lots


def knocks_by_lots(house, number, begins, most):
    """The list of the pairs (tick, many): by so many sets of at most most FAULTS the ZONE is knocked at tick."""
    house, ticks = frozen(house), ticks_by_spot(frozen(begins))
    check_zone(house, number)
    spots, knocks, _ = house[1][number]
    found = {}
    for (_, there), many in heard_lots(house, spots, most).items():
        tick = first_knock(knocks, {spot: [(ticks[spot], None)] for spot in there if spot in ticks})
        found[tick] = found.get(tick, 0) + many
    told = sorted([own for own in found.items() if own[0] is not None])
    return told + [(None, found[None])] if None in found else told
