"""One mind: the corners at which an OUT is on last and first, FOR ALL TIMES between, and what is so else."""

from secondknock.compare import ends_by, outs_of
from secondknock.errors import TooMany, Unfit
from secondknock.forms import ticks_by_spot
from secondknock.houses import barrers, callers, check_out, check_zone, feelers
from secondknock.ticks import are_ticks
from secondknock.values import as_set, every_row, frozen, is_tuple, multiplied, power, spans_in
from secondknock.within import times_by

MOST_TIMES = 4000


def both_ways(house, out):
    """The list of the ZONES that call and bar an OUT; tuples throughout."""
    barring = barrers(house, out)
    return [zone for zone in callers(house, out) if zone in barring]


def two_minded(house):
    """The set of the pairs (out, zone) of a ZONE that calls and bars an OUT."""
    house = frozen(house)
    return tuple([(out, zone) for out in range(len(house[3])) for zone in both_ways(house, out)])


def check_between(low, high):
    """Raises Unfit if low has None where high has not, or the other way, or is later somewhere."""
    for one, other in zip(low, high):
        if (one is None) != (other is None) or (one is not None and one > other):
            raise Unfit()


def check_corner(house, low, high, out):
    """Raises NoOut, then Unfit if low and high do not fit, or this OUT is not of one mind."""
    check_out(house, out)
    check_between(low, high)
    if both_ways(house, out):
        raise Unfit()


def corner_of(low, high, zones):
    """The TIMES with high's ticks for these ZONES, low's for all others."""
    return tuple([high[zone] if zone in zones else tick for zone, tick in enumerate(low)])


def late_corner(house, low, high, out):
    """The TIMES with high's ticks for ZONES that call this OUT, low's for all others."""
    house, low, high = frozen(house), frozen(low), frozen(high)
    check_corner(house, low, high, out)
    return corner_of(low, high, callers(house, out))


def early_corner(house, low, high, out):
    """The TIMES with high's ticks for ZONES that bar this OUT, low's for all others."""
    house, low, high = frozen(house), frozen(low), frozen(high)
    check_corner(house, low, high, out)
    return corner_of(low, high, barrers(house, out))


def latest_on(house, low, high, out):
    """When this OUT is on at its late corner; None if it never is."""
    return outs_of(frozen(house), late_corner(house, low, high, out))[out]


def earliest_on(house, low, high, out):
    """When this OUT is on at its early corner; None if it never is."""
    return outs_of(frozen(house), early_corner(house, low, high, out))[out]


def ticks_between(house, low, high, out):
    """The list of when an OUT is on, None for never, for each of the TIMES between."""
    house, low, high = frozen(house), frozen(low), frozen(high)
    check_out(house, out)
    check_between(low, high)
    spans = [(None, None) if one is None else (one, other) for one, other in zip(low, high)]
    if multiplied([other - one + 1 for one, other in spans if one is not None]) > MOST_TIMES:
        raise TooMany()
    lists = [[None] if one is None else list(range(one, other + 1)) for one, other in spans]
    return [outs_of(house, times)[out] for times in every_row(lists)]


def ticks_had(house, low, high, out):
    """The set of the ticks at which this OUT is first on by some TIMES between."""
    found = ticks_between(house, low, high, out)
    return as_set([tick for tick in found if tick is not None])


def may_be_silent(house, low, high, out):
    """Whether this OUT is never on by some TIMES between."""
    return None in ticks_between(house, low, high, out)


def reach_of(house):
    """1 more than the greatest wait; 1 without LINES."""
    return 1 + max([line[3] for line in house[2]], default=0)


def times_apart(house, number, other, gap):
    """TIMES at which the one ZONE is knocked by gap later than number, all others never."""
    ticks = {number: max(0, -gap), other: max(0, gap)}
    return tuple([ticks.get(zone) for zone in range(len(house[1]))])


def silent_gaps(house, out, number, other):
    """The list of the greatest stretches (a, b) of gaps between two ZONES' knocks with which this OUT is silent."""
    house = frozen(house)
    check_out(house, out)
    check_zone(house, number)
    check_zone(house, other)
    if number == other:
        raise Unfit()
    # A gap that is greater than all waits, or less than all below 0, is as good as each other such one.
    reach = reach_of(house)
    gaps = list(range(-reach, reach + 1))
    silent = [outs_of(house, times_apart(house, number, other, gap))[out] is None for gap in gaps]
    return [
        (None if begin == 0 else gaps[begin], None if end == len(gaps) else gaps[end - 1])
        for begin, end in spans_in(silent, ())
    ]


def tick_list(house):
    """The list of the ticks, and None, among which least TIMES are found; TooMany if there are too many TIMES.

    A gap between neighbouring ticks greater than the reach and 1 can be made less by 1, and no LINE ends in
    another state, also if one tick is 1 earlier; then the greatest tick is at most so much.
    """
    many = len(house[1])
    last = (many - 1) * (reach_of(house) + 1) + 1
    if power(last + 2, many) > MOST_TIMES:
        raise TooMany()
    return list(range(last + 1)) + [None]


def answers(house):
    """The list, ascending, of the pairs of a tuple of all LINES' states that some TIMES have, and the least such."""
    house = frozen(house)
    found = {}
    for times in every_row([tick_list(house) for _ in house[1]]):
        answer = tuple([state for state, _ in ends_by(house, times)])
        found.setdefault(answer, times)
    return sorted(found.items())


def is_later(tick, other):
    """Whether the one tick is later than the other one; None is later than all."""
    return other is not None and (tick is None or tick > other)


def one_earlier(times, zone):
    """The TIMES with this ZONE knocked one tick earlier."""
    return times[:zone] + (times[zone] - 1,) + times[zone + 1:]


def later_if_earlier(house, out):
    """The least pair (slow, fast) of TIMES, fast one tick earlier at one ZONE, with this OUT on later by fast."""
    house = frozen(house)
    check_out(house, out)
    for slow in every_row([tick_list(house) for _ in house[1]]):
        plain = outs_of(house, slow)[out]
        for zone, tick in enumerate(slow):
            if tick is not None and tick > 0:
                fast = one_earlier(slow, zone)
                if is_later(outs_of(house, fast)[out], plain):
                    return (slow, fast)
    return None


def is_later_pair(house, out, thing):
    """Whether thing is a pair of TIMES, fast nowhere later than slow, with this OUT on later by fast."""
    house = frozen(house)
    check_out(house, out)
    if not is_tuple(thing, 2) or not all([are_ticks(own, len(house[1])) for own in thing]):
        return False
    slow, fast = thing
    if any([is_later(tick, other) for tick, other in zip(fast, slow)]):
        return False
    return is_later(outs_of(house, fast)[out], outs_of(house, slow)[out])


def knocked_by(house, begins):
    """The TIMES at which ZONES are knocked by these BEGINS."""
    return times_by(frozen(house), ticks_by_spot(frozen(begins)))


def dirty_rows(house, begins, out):
    """The tuple of the pairs (spot, tick): when this OUT is on if this feeler speaks from tick 0 on."""
    house, ticks = frozen(house), ticks_by_spot(frozen(begins))
    check_out(house, out)
    found = []
    for spot in feelers(house):
        dirty = {own: ticks[own] for own in ticks}
        dirty[spot] = 0
        found.append((spot, outs_of(house, times_by(house, dirty))[out]))
    return tuple(found)
