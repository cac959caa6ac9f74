"""Mending: what each healing of a FAULT takes and gives, and the ORDERS in which FAULTS may be healed one by one."""

from itertools import combinations

from secondknock.errors import CanNot, TooMany, Unfit
from secondknock.faults import check_spots, heard_more
from secondknock.offs import is_dumb
from secondknock.rings import CUT, heard_spots, is_fault
from secondknock.values import frozen, lies_in, subsets, without_one

MOST_FAULTS = 6


def check_is_one(faults, fault):
    """Raises Unfit if this FAULT is none of faults."""
    if fault not in faults:
        raise Unfit()


def is_order_of(faults, order):
    """Whether order has each of these FAULTS, and nothing else, once."""
    return isinstance(order, tuple) and len(order) == len(faults) and lies_in(faults, order)


def check_order(faults, order):
    """Raises Unfit if this is no ORDER of faults."""
    if not is_order_of(faults, order):
        raise Unfit()


def check_few(faults):
    """Raises TooMany for so many FAULTS that their ORDERS are not told one by one."""
    if len(faults) > MOST_FAULTS:
        raise TooMany()


def taken_by(rings, faults, fault):
    """The set of the SPOTS heard before, and not after, the healing of one of faults; tuples throughout."""
    return heard_more(rings, without_one(faults, fault), faults)


def heal_takes(rings, faults, fault):
    """The set of the SPOTS that the healing of this one of faults takes."""
    rings, faults, fault = frozen(rings), frozen(faults), frozen(fault)
    check_is_one(faults, fault)
    return taken_by(rings, faults, fault)


def heal_gives(rings, faults, fault):
    """The set of the SPOTS that the healing of this one of faults gives."""
    rings, faults, fault = frozen(rings), frozen(faults), frozen(fault)
    check_is_one(faults, fault)
    return heard_more(rings, faults, without_one(faults, fault))


def safe_ones(rings, faults):
    """The list, ascending, of those of faults whose healing is safe; tuples throughout."""
    return [fault for fault in faults if taken_by(rings, faults, fault) == ()]


def safe_heals(rings, faults):
    """The set of those of faults whose healing is safe."""
    return tuple(safe_ones(frozen(rings), frozen(faults)))


def left_along(faults, order):
    """The list of what is left of faults behind 0, 1, .. healings in this order."""
    return [tuple([fault for fault in faults if fault not in order[:many]]) for many in range(len(order) + 1)]


def heard_along(rings, faults, order):
    """The tuple of the sets of the SPOTS heard behind 0, 1, .. healings in this ORDER."""
    rings, faults, order = frozen(rings), frozen(faults), frozen(order)
    check_order(faults, order)
    return tuple([heard_spots(rings, left) for left in left_along(faults, order)])


def first_harm(rings, faults, order):
    """The pair of the number of the first healing that is not safe and what it takes; None if all are safe."""
    for number, left in enumerate(left_along(faults, order)[:-1]):
        spots = taken_by(rings, left, order[number])
        if spots:
            return (number, spots)
    return None


def order_harm(rings, faults, order):
    """The pair of the first healing in this ORDER that is not safe and the set of what it takes; None if it is safe."""
    rings, faults, order = frozen(rings), frozen(faults), frozen(order)
    check_order(faults, order)
    return first_harm(rings, faults, order)


def is_safe_order(rings, faults, thing):
    """Whether thing is a safe ORDER of faults."""
    rings, faults = frozen(rings), frozen(faults)
    if not is_order_of(faults, thing) or not all([is_fault(rings, own) for own in thing]):
        return False
    return first_harm(rings, faults, thing) is None


def safe_steps(rings, faults):
    """A dict: what may be left of faults, fewer ahead of more, and the list of those whose healing is safe then."""
    return {left: safe_ones(rings, left) for left in subsets(faults)}


def orders_by(faults, steps):
    """The list, ascending, of the ORDERS of faults that heal what such a dict lets."""
    rows = [((), faults)]
    for _ in faults:
        rows = [(done + (fault,), without_one(left, fault)) for done, left in rows for fault in steps[left]]
    return [done for done, _ in rows]


def count_orders(rings, faults):
    """How many safe ORDERS of faults there are."""
    faults = frozen(faults)
    many = {}
    for left, safe in safe_steps(frozen(rings), faults).items():
        many[left] = sum([many[without_one(left, fault)] for fault in safe]) if left else 1
    return many[faults]


def least_rest(rings, left):
    """The least safe ORDER of what is left; tuples throughout."""
    order = ()
    # Whatever is healed, all shorts left, then all breaks, are a safe ORDER: no choice leads nowhere.
    while left:
        fault = safe_ones(rings, left)[0]
        order = order + (fault,)
        left = without_one(left, fault)
    return order


def least_order(rings, faults):
    """The least of the safe ORDERS of faults."""
    return least_rest(frozen(rings), frozen(faults))


def safe_orders(rings, faults):
    """The list, ascending, of all safe ORDERS of faults."""
    rings, faults = frozen(rings), frozen(faults)
    check_few(faults)
    return orders_by(faults, safe_steps(rings, faults))


def any_order(rings, faults):
    """Whether all ORDERS of faults are safe."""
    rings, faults = frozen(rings), frozen(faults)
    # What takes something is a break ahead of a short, and does so also if these two alone are left.
    return all([len(safe_ones(rings, pair)) == 2 for pair in combinations(faults, 2)])


def check_can_be_heard(rings, spots):
    """Raises NoSpot for the first of spots that is none, CanNot if one is a cut-off."""
    check_spots(rings, spots)
    if CUT in [rings[number][1][at] for number, at in spots]:
        raise CanNot()


def fewest_heals(rings, faults, spots):
    """The list, ascending, of the sets of as few of faults as can be with which, healed, all of spots are heard."""
    rings, faults, spots = frozen(rings), frozen(faults), frozen(spots)
    check_can_be_heard(rings, spots)
    enough = [
        healed for healed in subsets(faults)
        if lies_in(spots, heard_spots(rings, tuple([own for own in faults if own not in healed])))
    ]
    fewest = min([len(healed) for healed in enough])
    return sorted([healed for healed in enough if len(healed) == fewest])


def healed_more(rings, layer):
    """A dict: what is left, and the least safe healings to it, one more than to what such a dict has."""
    found = {}
    for left, done in layer.items():
        for fault in safe_ones(rings, left):
            rest, own = without_one(left, fault), done + (fault,)
            found[rest] = min(found.get(rest, own), own)
    return found


def soonest(rings, faults, spots):
    """The pair of the least number of healings behind which all of spots are heard, and the least such safe ORDER."""
    rings, faults, spots = frozen(rings), frozen(faults), frozen(spots)
    check_can_be_heard(rings, spots)
    layer = {faults: ()}
    good = []
    while not good:
        good = [(done, left) for left, done in layer.items() if lies_in(spots, heard_spots(rings, left))]
        layer = healed_more(rings, layer)
    done, left = min(good)
    return (len(done), done + least_rest(rings, left))


def dumb_with(house, faults):
    """The list of the ZONES that are dumb with these FAULTS; tuples throughout."""
    return [zone for zone in range(len(house[1])) if is_dumb(house, zone, faults, ())]


def zone_orders(house, faults):
    """The list, ascending, of the ORDERS of faults in which no healing makes a ZONE dumb that is not."""
    house, faults = frozen(house), frozen(faults)
    check_few(faults)
    dumb = {left: dumb_with(house, left) for left in subsets(faults)}
    steps = {
        left: [fault for fault in left if lies_in(dumb[without_one(left, fault)], dumb[left])] for left in dumb
    }
    return orders_by(faults, steps)
