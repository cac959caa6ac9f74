"""Cut-offs: where they must stand so that any one fault leaves enough, and new feelers put in."""

from secondknock.errors import CanNot, NoGap, NoRing, Unfit
from secondknock.forms import form_at, without
from secondknock.houses import check_out, check_zone, feelers, is_feeler, zone_named, zone_panel
from secondknock.rings import CUT, bare_numbers, check_gap, check_ring, sections_of
from secondknock.rising import check_feelers, check_rises, out_forms
from secondknock.values import as_set, frozen, is_ascending, is_number_pair


def check_bare_ring(house, ring):
    """Raises NoRing if no RING with some bare PIECE has this number."""
    check_ring(house[0], ring)
    if not bare_numbers(house[0][ring][1]):
        raise NoRing(ring)


def bare_count(house, ring):
    """How many bare PIECES a RING has."""
    return len(bare_numbers(house[0][ring][1]))


def check_cuts(house, ring, cuts):
    """Raises NoRing, then NoGap for the first of cuts that is no bare GAP of this RING."""
    check_bare_ring(house, ring)
    for gap in cuts:
        if not 0 <= gap <= bare_count(house, ring):
            raise NoGap((ring, gap))


def with_pieces(house, ring, pieces, moved):
    """The HOUSE with these PIECES on a RING, its SPOTS led along by a dict of old and new numbers."""
    spots = {spot: spot for spot in feelers(house)}
    for old, new in moved.items():
        spots[(ring, old)] = (ring, new)
    rings = house[0][:ring] + ((house[0][ring][0], pieces),) + house[0][ring + 1:]
    return (rings, tuple([zone_named(own, (spots,)) for own in house[1]])) + house[2:]


def cut_house(house, ring, cuts):
    """The HOUSE with a cut-off in each of these bare GAPS of this RING alone."""
    house, cuts = frozen(house), frozen(cuts)
    check_cuts(house, ring, cuts)
    numbers = bare_numbers(house[0][ring][1])
    pieces, moved = (), {}
    for at, number in enumerate(numbers):
        if at in cuts:
            pieces = pieces + (CUT,)
        moved[number] = len(pieces)
        pieces = pieces + (house[0][ring][1][number],)
    if len(numbers) in cuts:
        pieces = pieces + (CUT,)
    return with_pieces(house, ring, pieces, moved)


def bare_gaps(house, ring):
    """The set of the bare GAPS at which this RING is cut as it stands."""
    house = frozen(house)
    check_bare_ring(house, ring)
    pieces = house[0][ring][1]
    numbers = [number for number, own in enumerate(pieces) if own == CUT]
    return as_set([len(bare_numbers(pieces[:number])) for number in numbers])


def left_without(zone, spots):
    """How many SPOTS a ZONE has but for these."""
    return len([spot for spot in zone[0] if spot not in spots])


def do_go(house, spots, keeps):
    """Whether these feelers may go; tuples throughout."""
    return all([left_without(zone, spots) >= keep for zone, keep in zip(house[1], keeps)])


def may_go(house, spots, keeps):
    """Whether each ZONE has at least as many other SPOTS as keeps tells."""
    house, spots = frozen(house), frozen(spots)
    check_feelers(house, spots)
    return do_go(house, spots, frozen(keeps))


def spots_at(house, ring, numbers):
    """The set of the SPOTS of the feelers among these PIECES of a RING."""
    return tuple([(ring, number) for number in numbers if is_feeler(house[0], (ring, number))])


def strip_spots(house, ring, first, behind):
    """The set of the SPOTS of the feelers of the bare PIECES from first to ahead of behind."""
    return spots_at(house, ring, bare_numbers(house[0][ring][1])[first:behind])


def kept_by(house, ring, cuts):
    """The tuple of how many SPOTS of each ZONE are heard at the least with any one FAULT on this RING cut so."""
    house, cuts = frozen(house), frozen(cuts)
    check_cuts(house, ring, cuts)
    # One break alone loses nothing; one short loses its section.
    bounds = (0,) + cuts + (bare_count(house, ring),)
    lots = [strip_spots(house, ring, first, behind) for first, behind in zip(bounds, bounds[1:])]
    return tuple([min([left_without(zone, lost) for lost in lots]) for zone in house[1]])


def strips_that_may(many, may):
    """A dict of True by the strips of so many bare PIECES, also of none, that may be lost together."""
    return {
        (first, behind): True
        for first in range(many + 1)
        for behind in range(first, many + 1)
        if may(first, behind)
    }


def strips_that_go(house, ring, keeps):
    """Such a dict of the strips of a RING whose feelers may go."""
    return strips_that_may(
        bare_count(house, ring), lambda first, behind: do_go(house, strip_spots(house, ring, first, behind), keeps)
    )


def farthest_cuts(many, strips):
    """The fewest cuts between strips that may be lost, each as far from end A as can be; CanNot if there are none."""
    cuts, first = (), 0
    while (first, many) not in strips:
        behind = [own for own in range(first + 1, many) if (first, own) in strips]
        if not behind:
            raise CanNot()
        first = behind[-1]
        cuts = cuts + (first,)
    return cuts


def checked_strips(house, ring, keeps):
    """The pair of how many bare PIECES this RING has and the dict of the strips that may go; raises NoRing."""
    house = frozen(house)
    check_bare_ring(house, ring)
    return bare_count(house, ring), strips_that_go(house, ring, frozen(keeps))


def fewest_cuts(house, ring, keeps):
    """The fewest cuts of this RING that hold, each, from end A on, as far from it as can be."""
    many, strips = checked_strips(house, ring, keeps)
    return farthest_cuts(many, strips)


def cut_paper(house, ring, keeps):
    """STRIPS that may not go, no GAP within two of them, as many as the fewest cuts."""
    many, strips = checked_strips(house, ring, keeps)
    cuts = farthest_cuts(many, strips)
    # Each cut is laid where one PIECE more would not go.
    return tuple([(first, behind + 1) for first, behind in zip((0,) + cuts, cuts)])


def is_cut_paper(house, ring, keeps, thing):
    """Whether thing is a tuple of STRIPS as cut_paper tells one; False if no cuts hold."""
    many, strips = checked_strips(house, ring, keeps)
    # No cuts hold exactly if they do not in all bare GAPS.
    if not all([(at, at + 1) in strips for at in range(many)]) or not isinstance(thing, tuple):
        return False
    if not all([is_number_pair(own) and own[0] < own[1] <= many and own not in strips for own in thing]):
        return False
    within = [gap for first, behind in thing for gap in range(first + 1, behind)]
    return is_ascending(thing) and is_ascending(within) and len(thing) == len(farthest_cuts(many, strips))


def count_cuts(house, ring, keeps):
    """How many cuts of this RING, as few as can be, hold; 0 if none do."""
    many, strips = checked_strips(house, ring, keeps)
    if not all([(at, at + 1) in strips for at in range(many)]):
        return 0
    # By where the last section begins, from A on with one cut more each time.
    ways = {0: 1}
    for _ in farthest_cuts(many, strips):
        ways = {
            behind: sum([ways[first] for first in ways if first < behind and (first, behind) in strips])
            for behind in range(1, many)
        }
    return sum([ways[first] for first in ways if (first, many) in strips])


def cheapest_cuts(house, ring, keeps, costs):
    """The pair of the least sum of costs and the cuts of this RING that hold with it: the fewest, then the least."""
    many, strips = checked_strips(house, ring, keeps)
    costs = frozen(costs)
    # For each place at which a section can begin: the least sum, how many cuts, and the cuts up to there.
    rows = [(0, (0, 0, ()))]
    for behind in range(many + 1):
        found = [
            (total + costs[behind], number + 1, cuts + (behind,))
            for first, (total, number, cuts) in rows
            if (first, behind) in strips
        ]
        if found:
            rows.append((behind, min(found)))
    whole = [row for first, row in rows if (first, many) in strips]
    if not whole:
        raise CanNot()
    total, _, cuts = min(whole)
    return (total, cuts)


def is_in_time(form, starts, tick):
    """Whether a FORM has a value, up to this tick, by each of starts."""
    values = [form_at(form, begins) for begins in starts]
    return None not in values and max(values) <= tick


def cuts_in_time(house, ring, starts, out, tick):
    """As fewest_cuts, of cuts by which the feelers of each section may be late."""
    house, starts = frozen(house), frozen(starts)
    check_rises(house)
    forms = out_forms(house, ())
    check_bare_ring(house, ring)
    check_out(house, out)
    many = bare_count(house, ring)
    strips = strips_that_may(
        many,
        lambda first, behind: is_in_time(without(forms[out], strip_spots(house, ring, first, behind)), starts, tick),
    )
    return farthest_cuts(many, strips)


def one_put_in(house, gap, place, zone):
    """The HOUSE with a feeler of this place more, at a GAP that is there, in a ZONE of its panel; tuples throughout."""
    ring, at = gap
    pieces = house[0][ring][1]
    moved = {number: number if number < at else number + 1 for number in range(len(pieces))}
    more = with_pieces(house, ring, pieces[:at] + (("feel", place),) + pieces[at:], moved)
    spots, knocks, stay = more[1][zone]
    wider = (as_set(spots + (gap,)), knocks, stay)
    return (more[0], more[1][:zone] + (wider,) + more[1][zone + 1:]) + more[2:]


def with_new(house, gap, place, zone):
    """The HOUSE with a new feeler of this place put at this GAP, a SPOT of this ZONE more."""
    house, gap = frozen(house), frozen(gap)
    check_gap(house[0], gap)
    check_zone(house, zone)
    if house[0][gap[0]][0] != zone_panel(house, zone):
        raise Unfit()
    return one_put_in(house, gap, place, zone)


def keeps_as_it_stands(house, ring, keeps):
    """Whether keeps are heard with any one FAULT on a RING, cut as it stands."""
    return all([do_go(house, spots_at(house, ring, own), keeps) for own in sections_of(house[0][ring])])


def new_gaps(house, ring, zone, keeps):
    """The set of the GAPS of this RING at which a feeler more in this ZONE lets any one FAULT leave keeps."""
    house, keeps = frozen(house), frozen(keeps)
    check_bare_ring(house, ring)
    check_zone(house, zone)
    if house[0][ring][0] != zone_panel(house, zone):
        return ()
    return tuple([
        number
        for number in range(len(house[0][ring][1]) + 1)
        if keeps_as_it_stands(one_put_in(house, (ring, number), 0, zone), ring, keeps)
    ])
