"""Between fires: when OUTS of a house that rises come on, FOR ALL fires no faster than one, no slower than another."""

from itertools import combinations

from secondknock.errors import CanNot, Unfit
from secondknock.houses import check_out, check_zone, feelers, zone_panel
from secondknock.islands import line_begin
from secondknock.rings import check_ring
from secondknock.rising import check_rises
from secondknock.values import as_set, frozen, is_ascending, is_below, is_number, is_tuple


def is_way(places, thing):
    """Whether thing is a way of a FIRE of so many places."""
    if not is_tuple(thing, 3) or not is_below(thing[0], places) or not is_below(thing[1], places):
        return False
    return thing[0] != thing[1] and is_number(thing[2]) and thing[2] >= 1


def are_ways(places, thing):
    """Whether thing is a set of ways of a FIRE of so many places, no two with one from and to."""
    if not isinstance(thing, tuple) or not all([is_way(places, own) for own in thing]):
        return False
    return is_ascending([own[:2] for own in thing])


def is_fire(thing):
    """Whether thing is a FIRE."""
    if not is_tuple(thing, 4):
        return False
    places, ways, start, tick = thing
    if not is_number(places) or places < 1 or not are_ways(places, ways):
        return False
    return is_below(start, places) and is_number(tick)


def least_arrivals(places, ways, start):
    """For each place the least sum of ticks on ways there from start; None if there is none."""
    least = {start: 0}
    for _ in range(places):
        for begin, end, ticks in ways:
            if begin in least:
                least[end] = min(least.get(end, least[begin] + ticks), least[begin] + ticks)
    return tuple([least.get(place) for place in range(places)])


def arrivals_of(fire):
    """The arrival of a FIRE at each place, None if never; tuples throughout."""
    places, ways, start, tick = fire
    return tuple([None if own is None else tick + own for own in least_arrivals(places, ways, start)])


def arrivals(fire):
    """The tuple of the arrivals of this FIRE at each place; None if it never comes there."""
    return arrivals_of(frozen(fire))


def ticks_by_arrivals(house, ticks):
    """A dict: the SPOTS of the feelers to whose places it comes, and when; ticks are those of the places."""
    found = {}
    for spot in feelers(house):
        place = house[0][spot[0]][1][spot[1]][1]
        if place < len(ticks) and ticks[place] is not None:
            found[spot] = ticks[place]
    return found


def fire_begins(house, fire):
    """The BEGINS of the feelers to whose places this FIRE comes."""
    return tuple(sorted(ticks_by_arrivals(frozen(house), arrivals(fire)).items()))


def times_by(house, ticks):
    """The TIMES of a HOUSE by a dict of the ticks from which SPOTS count for good; tuples throughout."""
    times = []
    for spots, knocks, _ in house[1]:
        told = sorted([ticks[spot] for spot in spots if spot in ticks])
        times.append(told[knocks - 1] if len(told) >= knocks else None)
    return tuple(times)


def out_tick(house, ticks, out):
    """When an OUT of a HOUSE that rises comes on by such a dict of ticks; None for never."""
    times = times_by(house, ticks)
    told = [(line_begin(line, times), line[3]) for line in house[2] if line[5] == out]
    return min([begin + wait for begin, wait in told if begin is not None], default=None)


def fire_tick(house, fire, out):
    """When an OUT that is there comes on by a FIRE; None for never."""
    return out_tick(house, ticks_by_arrivals(house, arrivals_of(fire)), out)


def on_by_fire(house, fire, out):
    """When this OUT comes on by this FIRE; None for never."""
    house = frozen(house)
    check_rises(house)
    check_out(house, out)
    return fire_tick(house, frozen(fire), out)


def fire_numbers(fire):
    """The list of the tick of a FIRE and those of its ways."""
    return [fire[3]] + [ticks for _, _, ticks in fire[1]]


def fire_with(fire, numbers):
    """The FIRE with these numbers in the place of its own."""
    places, ways, start, _ = fire
    told = tuple([(begin, end, ticks) for (begin, end, _), ticks in zip(ways, numbers[1:])])
    return (places, told, start, numbers[0])


def is_no_faster(one, other):
    """Whether other is no faster than one; tuples throughout."""
    if (one[0], one[2]) != (other[0], other[2]) or [own[:2] for own in one[1]] != [own[:2] for own in other[1]]:
        return False
    return all([quick <= slow for quick, slow in zip(fire_numbers(one), fire_numbers(other))])


def no_faster(one, other):
    """Whether other is no faster than one: with the same ways, and nothing less."""
    return is_no_faster(frozen(one), frozen(other))


def is_between(one, other, thing):
    """Whether thing is a FIRE no faster than one, and other no faster than it."""
    return is_fire(thing) and no_faster(one, thing) and no_faster(thing, other)


def check_span(house, one, other, out):
    """Raises what span_by_fires and fire_for raise ahead of all."""
    check_rises(house)
    check_out(house, out)
    if not is_no_faster(one, other):
        raise Unfit()


def span_by_fires(house, one, other, out):
    """The pair of the least and the greatest tick at which this OUT comes on by FIRES between; None for never."""
    house, one, other = frozen(house), frozen(one), frozen(other)
    check_span(house, one, other, out)
    return (fire_tick(house, one, out), fire_tick(house, other, out))


def fire_for(house, one, other, out, tick):
    """A FIRE between by which this OUT comes on just at this tick."""
    house, one, other = frozen(house), frozen(one), frozen(other)
    low, high = span_by_fires(house, one, other, out)
    if low is None or not low <= tick <= high:
        raise CanNot()
    numbers = fire_numbers(one)
    for at, most in enumerate(fire_numbers(other)):
        # With one number one greater an OUT comes on at most one tick later, so no tick is left out.
        while numbers[at] < most and fire_tick(house, fire_with(one, numbers), out) < tick:
            numbers[at] += 1
    return fire_with(one, numbers)


def start_ticks(house, places, ways, out):
    """For each place when an OUT comes on by the FIRE that starts there at tick 0."""
    return [fire_tick(house, (places, ways, start, 0), out) for start in range(places)]


def latest_starts(house, places, ways, out):
    """The pair of the greatest tick, or None, at which this OUT comes on, and the set of the starts by which so."""
    house, ways = frozen(house), frozen(ways)
    check_rises(house)
    check_out(house, out)
    told = start_ticks(house, places, ways, out)
    latest = None if None in told else max(told)
    return (latest, tuple([start for start in range(places) if told[start] == latest]))


def starts_by(house, places, ways, out, most):
    """The set of the places from which an OUT comes on by tick most; tuples throughout."""
    told = start_ticks(house, places, ways, out)
    return tuple([start for start in range(places) if told[start] is not None and told[start] <= most])


def starts_within(house, places, ways, out, most):
    """The set of the places from which this OUT comes on by tick most."""
    house = frozen(house)
    check_rises(house)
    check_out(house, out)
    return starts_by(house, places, frozen(ways), out, most)


def check_feeler_more(house, ring, number):
    """Raises NoRing, NoZone or Unfit if this ZONE can not get a feeler on this RING."""
    check_ring(house[0], ring)
    check_zone(house, number)
    if house[0][ring][0] != zone_panel(house, number):
        raise Unfit()


def one_feeler_more(house, ring, place, number):
    """The HOUSE with a feeler more at end B of a RING, in a ZONE; all is there, tuples throughout."""
    panel, pieces = house[0][ring]
    spots, knocks, stay = house[1][number]
    longer = (panel, pieces + (("feel", place),))
    wider = (as_set(spots + ((ring, len(pieces)),)), knocks, stay)
    return (
        house[0][:ring] + (longer,) + house[0][ring + 1:],
        house[1][:number] + (wider,) + house[1][number + 1:],
    ) + house[2:]


def with_feeler(house, ring, place, number):
    """The HOUSE with one feeler more, of this place, at end B of this RING, its SPOT in this ZONE, too."""
    house = frozen(house)
    check_feeler_more(house, ring, number)
    return one_feeler_more(house, ring, place, number)


def fewest_more(house, places, ways, out, most, ring, number):
    """The least of the fewest places at which one feeler more each lets all starts be within most; None without."""
    house, ways = frozen(house), frozen(ways)
    check_rises(house)
    check_feeler_more(house, ring, number)
    check_out(house, out)
    for many in range(places + 1):
        for row in combinations(list(range(places)), many):
            more = house
            for place in row:
                more = one_feeler_more(more, ring, place, number)
            if len(starts_by(more, places, ways, out, most)) == places:
                return row
    return None
