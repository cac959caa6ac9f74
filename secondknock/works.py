"""Works and trials: what must be put off while works are done, how they end, and days on which feelers are tried."""

from secondknock.errors import CanNot, NoPlace, Unfit
from secondknock.houses import are_feelers, feelers
from secondknock.offs import is_dumb, zone_feelers
from secondknock.rising import check_feelers
from secondknock.values import frozen, subsets, without_one


def place_at(house, spot):
    """The place of a feeler."""
    return house[0][spot[0]][1][spot[1]][1]


def check_works(house, works):
    """Raises NoPlace for the first of works that is no place of a feeler."""
    there = [place_at(house, spot) for spot in feelers(house)]
    for place in works:
        if place not in there:
            raise NoPlace(place)


def check_works_offs(house, works, offs):
    """Raises NoPlace, then NoSpot for the first of these that are not there."""
    check_works(house, works)
    check_feelers(house, offs)


def spots_at_works(house, works):
    """The set of the SPOTS of ZONES at these places; tuples throughout."""
    return tuple([spot for spot in zone_feelers(house) if place_at(house, spot) in works])


def at_works(house, works):
    """The set of the SPOTS of feelers at these places that lie in some ZONE."""
    house, works = frozen(house), frozen(works)
    check_works(house, works)
    return spots_at_works(house, works)


def noisy_spots(house, zone, works, offs):
    """The set of the SPOTS of a ZONE, told as a tuple, that may speak and are not put off."""
    return tuple([spot for spot in zone[0] if place_at(house, spot) in works and spot not in offs])


def noise_of(house, works, offs):
    """The list of the pairs of a ZONE that could be knocked and the least set that does it; tuples throughout."""
    rows = [(number, noisy_spots(house, zone, works, offs)) for number, zone in enumerate(house[1])]
    knocks = [own[1] for own in house[1]]
    return [(number, spots[:knocks[number]]) for number, spots in rows if len(spots) >= knocks[number]]


def is_still(house, works, offs):
    """Whether no ZONE is knocked while these works are done, offs being put off."""
    house, works, offs = frozen(house), frozen(works), frozen(offs)
    check_works_offs(house, works, offs)
    return noise_of(house, works, offs) == []


def noise(house, works, offs):
    """The list, ascending, of the pairs of a ZONE that could be knocked and the least set of SPOTS that does it."""
    house, works, offs = frozen(house), frozen(works), frozen(offs)
    check_works_offs(house, works, offs)
    return noise_of(house, works, offs)


def still_offs(house, works):
    """The list of all sets of SPOTS at works with which it is still, in a HOUSE in tuples; raises NoPlace."""
    check_works(house, works)
    return [offs for offs in subsets(spots_at_works(house, works)) if noise_of(house, works, offs) == []]


def fewest_offs(house, works):
    """The list, ascending, of all sets of as few SPOTS as can be with which it is still."""
    enough = still_offs(frozen(house), frozen(works))
    fewest = min([len(offs) for offs in enough])
    return sorted([offs for offs in enough if len(offs) == fewest])


def least_offs(house, works):
    """The list, ascending, of all sets with which it is still, but not with any one less."""
    house, works = frozen(house), frozen(works)
    enough = still_offs(house, works)
    return sorted([
        offs for offs in enough if not any([noise_of(house, works, without_one(offs, own)) == [] for own in offs])
    ])


def dumb_by_offs(house, offs):
    """The set of the ZONES that are dumb with these put-offs; tuples throughout."""
    return tuple([zone for zone in range(len(house[1])) if is_dumb(house, zone, (), offs)])


def dumb_zones(house, offs):
    """The set of the numbers of the ZONES that are dumb with offs."""
    house, offs = frozen(house), frozen(offs)
    check_feelers(house, offs)
    return dumb_by_offs(house, offs)


def checked_still(house, works, offs):
    """All three in tuples; raises NoPlace, NoSpot, then Unfit if it is not still."""
    house, works, offs = frozen(house), frozen(works), frozen(offs)
    check_works_offs(house, works, offs)
    if noise_of(house, works, offs):
        raise Unfit()
    return house, works, offs


def offs_along(house, offs, ends):
    """The list of what is put off ahead of all ends, and behind each; tuples throughout."""
    goings = [ends[number + 1:] for number in range(len(ends))]
    return [offs] + [tuple([spot for spot in offs if place_at(house, spot) in going]) for going in goings]


def told_back(house, works, offs, ends):
    """The tuple, for each end, of the set of the SPOTS that are told back."""
    house, works, offs = checked_still(house, works, offs)
    rows = offs_along(house, offs, frozen(ends))
    return tuple([tuple([spot for spot in one if spot not in other]) for one, other in zip(rows, rows[1:])])


def dumb_behind(house, works, offs, ends):
    """The tuple of how many ZONES are dumb behind each end."""
    house, works, offs = checked_still(house, works, offs)
    return tuple([len(dumb_by_offs(house, own)) for own in offs_along(house, offs, frozen(ends))[1:]])


def ended_more(house, offs, layer):
    """A dict: the works left, and the least pair (sum, ends) to them, one more than to what such a dict has."""
    found = {}
    for left, (total, ends) in layer.items():
        for place in left:
            rest = without_one(left, place)
            put_off = [spot for spot in offs if place_at(house, spot) in rest]
            own = (total + len(dumb_by_offs(house, put_off)), ends + (place,))
            found[rest] = min(found.get(rest, own), own)
    return found


def best_ends(house, works, offs):
    """The pair of the least sum of dumb_behind, and the least ends with it."""
    house, works, offs = checked_still(house, works, offs)
    # How many are dumb behind an end hangs on what works are left alone, not on the order of those that ended.
    layer = {works: (0, ())}
    for _ in works:
        layer = ended_more(house, offs, layer)
    return layer[()]


def is_good(house, spots, hands):
    """Whether these SPOTS are a good DAY; tuples throughout."""
    tried = [len([spot for spot in own if spot in spots]) < knocks for own, knocks, _ in house[1]]
    return len(spots) <= hands and all(tried)


def is_good_day(house, spots, hands):
    """Whether these SPOTS are a good DAY."""
    house, spots = frozen(house), frozen(spots)
    check_feelers(house, spots)
    return is_good(house, spots, hands)


def shortest_round(house, spots, hands):
    """A ROUND of spots of the fewest DAYS; raises NoSpot, CanNot."""
    house, spots = frozen(house), frozen(spots)
    check_feelers(house, spots)
    lots = subsets(spots)
    good = [day for day in lots if is_good(house, day, hands)]
    # Each set comes behind all that lie in it; its first SPOT is on some DAY, taken as the last one here.
    best = {(): ()}
    for left in lots[1:]:
        days = [day for day in good if day[:1] == left[:1] and all([own in left for own in day])]
        rests = [(day, tuple([own for own in left if own not in day])) for day in days]
        rounds = [best[rest] + (day,) for day, rest in rests if rest in best]
        if rounds:
            best[left] = min(rounds, key=len)
    if spots not in best:
        raise CanNot()
    return best[spots]


def fewest_days(house, spots, hands):
    """Of how many DAYS the shortest ROUNDS of spots are."""
    return len(shortest_round(house, spots, hands))


def round_of(house, spots, hands):
    """A ROUND of spots of so many DAYS."""
    return shortest_round(house, spots, hands)


def is_round(house, spots, hands, thing):
    """Whether thing is a ROUND of spots, however long."""
    house, spots = frozen(house), frozen(spots)
    check_feelers(house, spots)
    if not isinstance(thing, tuple) or not all([are_feelers(house[0], day) for day in thing]):
        return False
    tried = sorted([spot for day in thing for spot in day])
    return tuple(tried) == spots and all([is_good(house, day, hands) for day in thing])
