"""Lots of faults: counts, worst ones, and ones that bring pieces back, FOR ALL sets of faults."""

from secondknock.errors import TooMany, Unfit
from secondknock.rings import (
    are_faults,
    check_gap,
    check_ring,
    check_spot,
    first_faults,
    gap_number,
    heard_pieces,
    heard_spots,
)
from secondknock.values import as_set, frozen, lies_in, power

WORDS = ("break", "short")
MOST_DEAF = 400


def check_spots(rings, spots):
    """Raises NoSpot for the first of spots that is no SPOT of these RINGS."""
    for spot in spots:
        check_spot(rings, spot)


def faults_of(ring, number):
    """All FAULTS that can be on this RING, it having this number."""
    return [(word, (number, gap)) for word in WORDS for gap in range(len(ring[1]) + 1)]


def end_pairs(ring, number):
    """The pairs of a first FAULT from A and a first one from B that some mishap of this RING has."""
    single = faults_of(ring, number)
    apart = [(near, far) for near in single for far in single if gap_number(near) < gap_number(far)]
    return [(None, None)] + [(own, own) for own in single] + apart


def gaps_between(near, far):
    """How many GAPS lie between those of two FAULTS of one RING, none if they are one."""
    return max(0, gap_number(far) - gap_number(near) - 1)


def mishaps_with(near, far):
    """How many mishaps of a RING have these two as their first FAULTS, from A and from B, or None."""
    if near is None:
        return 1
    return power(3, gaps_between(near, far))


def plain_mishap(near, far):
    """The mishap of just these first FAULTS."""
    if near is None:
        return ()
    return as_set([near, far])


def mishaps_between(ring, near, far):
    """How many mishaps of this RING have near as the first FAULT from A, far as that from B."""
    ring, near, far = frozen(ring), frozen(near), frozen(far)
    if (near, far) not in end_pairs(ring, near[1][0]):
        return 0
    return mishaps_with(near, far)


def heard_table(ring):
    """A dict: each set of PIECES heard with some mishap of this RING, and with how many."""
    table = {}
    for near, far in end_pairs(ring, 0):
        pieces = heard_pieces(ring[1], near, far)
        table[pieces] = table.get(pieces, 0) + mishaps_with(near, far)
    return table


def heard_counts(ring):
    """The list, ascending, of the pairs of a set of PIECES heard and with how many mishaps they are."""
    return sorted(heard_table(frozen(ring)).items())


def heard_on(ring, faults, number):
    """The set of the numbers of the PIECES of this RING heard with faults."""
    near, far = first_faults(faults, number)
    return heard_pieces(ring[1], near, far)


def mishaps_alike(rings, faults):
    """With how many mishaps of rings just the same SPOTS are heard as with faults."""
    rings, faults = frozen(rings), frozen(faults)
    total = 1
    for number, ring in enumerate(rings):
        total = total * heard_table(ring)[heard_on(ring, faults, number)]
    return total


def fewest_mishap(ring, number, pieces):
    """The fewest of the mishaps of this RING with which just these PIECES are heard; None without."""
    found = [
        plain_mishap(near, far)
        for near, far in end_pairs(ring, number)
        if heard_pieces(ring[1], near, far) == pieces
    ]
    return min(found, key=lambda mishap: (len(mishap), mishap), default=None)


def plain_faults(rings, faults):
    """The fewest of the mishaps with which just the same SPOTS are heard as with faults."""
    rings, faults = frozen(rings), frozen(faults)
    found = ()
    # Of sets of one size the lesser one stays so whatever other RINGS' FAULTS are put to both.
    for number, ring in enumerate(rings):
        found = found + fewest_mishap(ring, number, heard_on(ring, faults, number))
    return as_set(found)


def mishap_for(rings, number, pieces):
    """The fewest of the mishaps of this RING with which just these PIECES are heard on it; None without."""
    rings, pieces = frozen(rings), frozen(pieces)
    check_ring(rings, number)
    return fewest_mishap(rings[number], number, pieces)


def check_fault_more(rings, faults, fault):
    """Raises NoGap or Unfit if this FAULT can not come to faults."""
    check_gap(rings, fault[1])
    if fault[1] in [own[1] for own in faults]:
        raise Unfit()


def heard_more(rings, faults, more):
    """The set of the SPOTS that are heard with more, and not with faults."""
    there = heard_spots(rings, faults)
    return tuple([spot for spot in heard_spots(rings, more) if spot not in there])


def brought_back(rings, faults, fault):
    """The set of the SPOTS that are heard with this FAULT more, and not without."""
    rings, faults, fault = frozen(rings), frozen(faults), frozen(fault)
    check_fault_more(rings, faults, fault)
    return heard_more(rings, faults, faults + (fault,))


def taken_away(rings, faults, fault):
    """The set of the SPOTS that are heard without this FAULT, and not with it."""
    rings, faults, fault = frozen(rings), frozen(faults), frozen(fault)
    check_fault_more(rings, faults, fault)
    return heard_more(rings, faults + (fault,), faults)


def bringers(rings, faults):
    """The set of the FAULTS, on GAPS without one, that bring something back."""
    rings, faults = frozen(rings), frozen(faults)
    taken = [own[1] for own in faults]
    free = [own for number, ring in enumerate(rings) for own in faults_of(ring, number) if own[1] not in taken]
    return as_set([own for own in free if heard_more(rings, faults, faults + (own,)) != ()])


def told_on(spots, number):
    """The numbers of the PIECES of those of spots on this RING."""
    return [at for ring, at in spots if ring == number]


def tallies(ring, number, wanted):
    """For each pair of first FAULTS: they, and how many of the wanted PIECES are heard with them."""
    return [
        (near, far, len([own for own in heard_pieces(ring[1], near, far) if own in wanted]))
        for near, far in end_pairs(ring, number)
    ]


def worst_by_size(ring, number, wanted):
    """A dict: how many FAULTS, none to two, and the pair of the fewest wanted heard and a mishap."""
    worst = {}
    for near, far, many in tallies(ring, number, wanted):
        mishap = plain_mishap(near, far)
        size = len(mishap)
        worst[size] = min(worst.get(size, (many, mishap)), (many, mishap))
    return worst


def worst_pair(rings, spots, many):
    """The pair of the fewest of spots heard with at most many FAULTS, and such a mishap."""
    best = {0: (0, ())}
    # Two FAULTS a RING are enough: more between them change nothing that is heard.
    for number, ring in enumerate(rings):
        worst = worst_by_size(ring, number, told_on(spots, number))
        longer = {}
        for used, (total, mishap) in best.items():
            for size, (fewest, more) in worst.items():
                if used + size <= many:
                    own = (total + fewest, as_set(mishap + more))
                    longer[used + size] = min(longer.get(used + size, own), own)
        best = longer
    return min(list(best.values()))


def least_heard(rings, spots, many):
    """How many of spots are heard at the least with a mishap of at most many FAULTS."""
    rings, spots = frozen(rings), frozen(spots)
    check_spots(rings, spots)
    return worst_pair(rings, spots, many)[0]


def worst_mishap(rings, spots, many):
    """A mishap of at most many FAULTS with which the fewest of spots are heard."""
    rings, spots = frozen(rings), frozen(spots)
    check_spots(rings, spots)
    return worst_pair(rings, spots, many)[1]


def is_worst_mishap(rings, spots, many, thing):
    """Whether thing is a mishap of at most many FAULTS with which the fewest of spots are heard."""
    rings, spots = frozen(rings), frozen(spots)
    fewest = least_heard(rings, spots, many)
    if not are_faults(rings, thing) or len(thing) > many:
        return False
    there = heard_spots(rings, thing)
    return len([spot for spot in spots if spot in there]) == fewest


def sizes_of(near, far):
    """All numbers of FAULTS that mishaps with these first FAULTS, or None, have."""
    if near is None:
        return [0]
    if near == far:
        return [1]
    return [2 + more for more in range(gaps_between(near, far) + 1)]


def most_by_size(ring, number, wanted):
    """A dict: how many FAULTS, and how many of the wanted PIECES are heard at the most with just so many."""
    most = {}
    for near, far, many in tallies(ring, number, wanted):
        for size in sizes_of(near, far):
            most[size] = max(most.get(size, 0), many)
    return most


def most_heard(rings, spots, many):
    """How many of spots are heard at the most with just many FAULTS; None if there are not so many GAPS."""
    rings, spots = frozen(rings), frozen(spots)
    check_spots(rings, spots)
    best = {0: 0}
    for number, ring in enumerate(rings):
        most = most_by_size(ring, number, told_on(spots, number))
        longer = {}
        for used, total in best.items():
            for size, more in most.items():
                longer[used + size] = max(longer.get(used + size, 0), total + more)
        best = longer
    return best.get(many)


def least_gain(one, other):
    """The lesser of two gains; None is above all."""
    if one is None or other is None:
        return other if one is None else one
    return min(one, other)


def deaf_kinds(ring, number, wanted):
    """A dict: the mishaps of a RING by a pair: how many wanted PIECES are heard, and the gain.

    The gain is how many more are heard, at the least, with some of the FAULTS left out; None without
    FAULTS. A mishap that gains nothing so is never part of one with which spots are deaf and with no
    lesser one, nor is one of more than two FAULTS a RING.
    """
    many_with = {plain_mishap(near, far): many for near, far, many in tallies(ring, number, wanted)}
    kinds = {(many_with[()], None): [()]}
    for mishap, many in many_with.items():
        lesser = [many_with[own] for own in many_with if len(own) < len(mishap) and lies_in(own, mishap)]
        if lesser and min(lesser) > many:
            kinds.setdefault((many, min(lesser) - many), []).append(mishap)
    return kinds


def deaf_mixes(tables, many):
    """The list of tuples of a kind for each RING that together are deaf, but not with any one lesser.

    Those of which too many are heard already are left out RING by RING: more RINGS take nothing off.
    """
    mixes = [((), 0, None)]
    for table in tables:
        mixes = [
            (kinds + ((own, gain),), total + own, least_gain(least, gain))
            for kinds, total, least in mixes
            for own, gain in table
            if total + own < many
        ]
    return [kinds for kinds, total, least in mixes if least is None or total + least >= many]


def lots_of(tables, kinds):
    """How many mishaps are of these kinds, RING by RING."""
    total = 1
    for table, kind in zip(tables, kinds):
        total = total * len(table[kind])
    return total


def mishaps_of(tables, kinds):
    """The list of the mishaps of these kinds, RING by RING."""
    found = [()]
    for table, kind in zip(tables, kinds):
        found = [mishap + more for mishap in found for more in table[kind]]
    return [as_set(mishap) for mishap in found]


def deaf_tables(rings, spots):
    """For each RING its dict of deaf_kinds."""
    check_spots(rings, spots)
    return [deaf_kinds(ring, number, told_on(spots, number)) for number, ring in enumerate(rings)]


def deaf_count(rings, spots, many):
    """How many mishaps there are with which spots are deaf, but with no other set that lies in them."""
    tables = deaf_tables(frozen(rings), frozen(spots))
    return sum([lots_of(tables, kinds) for kinds in deaf_mixes(tables, many)])


def least_deaf(rings, spots, many):
    """The list, ascending, of the mishaps with which spots are deaf, but with no other set in them."""
    tables = deaf_tables(frozen(rings), frozen(spots))
    mixes = deaf_mixes(tables, many)
    if sum([lots_of(tables, kinds) for kinds in mixes]) > MOST_DEAF:
        raise TooMany()
    return sorted([mishap for kinds in mixes for mishap in mishaps_of(tables, kinds)])
