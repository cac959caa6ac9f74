"""Fires within bounds: how late places can be FOR ALL spreads, told by one road low and all else high."""

from secondknock.errors import CanNot, NoPlace, TooMany
from secondknock.values import every_row, frozen, is_number, is_tuple, multiplied
from secondknock.within import least_arrivals

MOST_SPREADS = 4000


def check_places(land, named):
    """Raises NoPlace for the first of these that is no place of this MAP."""
    for place in named:
        if not 0 <= place < land[0]:
            raise NoPlace(place)


def arrivals_with(land, start, spreads):
    """The tuple of the arrivals at all places by SPREADS; tuples throughout."""
    places, ways = land
    told = [(begin, end, ticks) for (begin, end, _, _), ticks in zip(ways, spreads)]
    return least_arrivals(places, told, start)


def arrivals_by(land, start, spreads):
    """The tuple of the arrivals at all places by these SPREADS; None where it never comes."""
    land = frozen(land)
    check_places(land, (start,))
    return arrivals_with(land, start, spreads)


def second_of(ticks, feelers):
    """The second least of the arrivals of feelers, each as often as it stands there; None for fewer than two."""
    told = sorted([ticks[place] for place in feelers if ticks[place] is not None])
    return told[1] if len(told) > 1 else None


def second_arrival(land, start, spreads, feelers):
    """The second arrival of these feelers by these SPREADS; None if fewer than two are reached."""
    land = frozen(land)
    check_places(land, (start,))
    check_places(land, feelers)
    return second_of(arrivals_with(land, start, spreads), feelers)


def roads_to(land, start, place):
    """The list, ascending, of the roads from start to a place; tuples throughout."""
    found = []
    steps = [((), (start,))]
    while steps:
        found.extend([road for road, passed in steps if passed[-1] == place])
        steps = [
            (road + (number,), passed + (way[1],))
            for road, passed in steps
            for number, way in enumerate(land[1])
            if passed[-1] != place and way[0] == passed[-1] and way[1] not in passed
        ]
    return sorted(found)


def roads(land, start, place):
    """The list, ascending, of the roads to this place."""
    land = frozen(land)
    check_places(land, (start, place))
    return roads_to(land, start, place)


def corner(land, road):
    """The SPREADS with all ways of this road low, all others high."""
    return tuple([way[2] if number in road else way[3] for number, way in enumerate(land[1])])


def low_corner(land):
    """The SPREADS with all ways low."""
    return tuple([way[2] for way in land[1]])


def corner_arrivals(land, start, other):
    """The list, for each road to other, of the pair of it and the arrivals with it low, all else high."""
    return [(road, arrivals_with(land, start, corner(land, road))) for road in roads_to(land, start, other)]


def is_reached(land, start, place):
    """Whether there is a road to a place; by which SPREADS does not matter."""
    return arrivals_with(land, start, low_corner(land))[place] is not None


def are_reached(land, start, place, other):
    """Whether there are roads to both places."""
    return is_reached(land, start, place) and is_reached(land, start, other)


def late_rows(land, start, place, other):
    """The list of the pairs (late, road): by how much place is late against other in the corner of each road."""
    return [(told[place] - told[other], road) for road, told in corner_arrivals(land, start, other)]


def most_late_by(land, start, place, other):
    """The greatest number by which a place is late against another one, both reached; tuples throughout."""
    return max([late for late, _ in late_rows(land, start, place, other)])


def most_late(land, start, place, other):
    """The greatest number by which place is late against other; None if one of them is never reached."""
    land = frozen(land)
    check_places(land, (start, place, other))
    return most_late_by(land, start, place, other) if are_reached(land, start, place, other) else None


def lateness(land, start, place, other):
    """The pair of the least and the greatest number by which place is late; None if one is never reached."""
    land = frozen(land)
    check_places(land, (start, place, other))
    if not are_reached(land, start, place, other):
        return None
    return (-most_late_by(land, start, other, place), most_late_by(land, start, place, other))


def worst_road(land, start, place, other):
    """The least road to other with which, it low and all else high, place is most late."""
    land = frozen(land)
    check_places(land, (start, place, other))
    if not are_reached(land, start, place, other):
        raise CanNot()
    most = most_late_by(land, start, place, other)
    return min([road for late, road in late_rows(land, start, place, other) if late == most])


def worst_spreads(land, start, place, other):
    """The SPREADS with the worst road low, all else high."""
    return corner(frozen(land), worst_road(land, start, place, other))


def are_spreads(land, thing):
    """Whether thing is SPREADS of this MAP."""
    if not is_tuple(thing, len(land[1])) or not all([is_number(own) for own in thing]):
        return False
    return all([low <= own <= high for own, (_, _, low, high) in zip(thing, land[1])])


def is_worst(land, start, place, other, thing):
    """Whether thing is SPREADS with which place is most late against other."""
    land = frozen(land)
    most = most_late(land, start, place, other)
    if most is None or not are_spreads(land, thing):
        return False
    told = arrivals_with(land, start, thing)
    return told[place] - told[other] == most


def first_and_last(land, start, place):
    """The pair of the least and the greatest arrival over all SPREADS; None if it is never reached."""
    land = frozen(land)
    check_places(land, (start, place))
    if not is_reached(land, start, place):
        return None
    return tuple([arrivals_with(land, start, own)[place] for own in (low_corner(land), corner(land, ()))])


def check_reached(land, start, place, other):
    """Raises NoPlace for what is no place, CanNot if place is never reached."""
    check_places(land, (start, place, other))
    if not is_reached(land, start, place):
        raise CanNot()


def never_barred(land, start, place, wait, other):
    """Whether other is not reached, or more than wait ticks behind place, FOR ALL SPREADS."""
    land = frozen(land)
    check_reached(land, start, place, other)
    return not is_reached(land, start, other) or -most_late_by(land, start, place, other) > wait


def always_barred(land, start, place, wait, other):
    """Whether other is reached, at most wait ticks behind place, FOR ALL SPREADS."""
    land = frozen(land)
    check_reached(land, start, place, other)
    return is_reached(land, start, other) and most_late_by(land, start, other, place) <= wait


def second_late(land, start, feelers, other):
    """The greatest number by which the second arrival of feelers is late against other; None if one is not reached."""
    land = frozen(land)
    check_places(land, (start,))
    check_places(land, feelers)
    check_places(land, (other,))
    rows = [(second_of(told, feelers), told[other]) for _, told in corner_arrivals(land, start, other)]
    return max([second - own for second, own in rows if second is not None], default=None)


def late_behind(land, start, place, feelers):
    """The greatest number by which place is late against the second arrival of feelers; None if one is not reached."""
    land = frozen(land)
    check_places(land, (start, place))
    check_places(land, feelers)
    if multiplied([high - low + 1 for _, _, low, high in land[1]]) > MOST_SPREADS:
        raise TooMany()
    # Against a second arrival one road low is not enough: all SPREADS are gone through.
    lists = [list(range(low, high + 1)) for _, _, low, high in land[1]]
    rows = [arrivals_with(land, start, spreads) for spreads in every_row(lists)]
    late = [(told[place], second_of(told, feelers)) for told in rows]
    return max([own - second for own, second in late if own is not None and second is not None], default=None)
