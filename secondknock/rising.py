"""Houses that only rise: the first tick of each OUT as one FORM of the ticks at which feelers begin."""

from itertools import combinations

from secondknock.errors import CanNot, NoSpot, Unfit
from secondknock.forms import (
    after,
    both,
    either,
    form_at,
    knock_form,
    late_by,
    never_above,
    parting_begins,
    without,
)
from secondknock.houses import check_line, check_out, check_zone, feelers, is_feeler, rises
from secondknock.values import frozen, least_sets, subsets, without_one


def check_rises(house):
    """Raises Unfit for a HOUSE that does not rise."""
    if not rises(house):
        raise Unfit()


def check_feelers(house, spots):
    """Raises NoSpot for the first of spots that is no feeler's of this HOUSE."""
    for spot in spots:
        if not is_feeler(house[0], spot):
            raise NoSpot(spot)


def form_of_zone(house, zone, spots):
    """The FORM of a ZONE that is there, with spots lost; tuples throughout."""
    own_spots, knocks, _ = house[1][zone]
    return knock_form([spot for spot in own_spots if spot not in spots], knocks)


def form_of_line(house, line, spots):
    """The FORM of a LINE, told as a tuple, with spots lost; tuples throughout."""
    forms = [form_of_zone(house, zone, spots) for zone in line[2]]
    told = forms[0]
    for own in forms[1:]:
        told = both(told, own) if line[1] == "all" else either(told, own)
    return after(told, line[3])


def form_of_out(house, out, spots):
    """The FORM of an OUT that is there, with spots lost; tuples throughout."""
    forms = [form_of_line(house, line, spots) for line in house[2] if line[5] == out]
    told = forms[0] if forms else ()
    for own in forms[1:]:
        told = either(told, own)
    return told


def out_forms(house, spots):
    """The list of the FORMS of all OUTS, with spots lost; tuples throughout."""
    return [form_of_out(house, out, spots) for out in range(len(house[3]))]


def zone_form(house, zone, spots):
    """The least FORM of the tick at which this ZONE is knocked, with spots lost."""
    house, spots = frozen(house), frozen(spots)
    check_rises(house)
    check_zone(house, zone)
    check_feelers(house, spots)
    return form_of_zone(house, zone, spots)


def line_form(house, line, spots):
    """The least FORM of the tick from which this LINE is on, with spots lost."""
    house, spots = frozen(house), frozen(spots)
    check_rises(house)
    check_line(house, line)
    check_feelers(house, spots)
    return form_of_line(house, house[2][line], spots)


def out_form(house, out, spots):
    """The least FORM of the tick from which this OUT is on, with spots lost."""
    house, spots = frozen(house), frozen(spots)
    check_rises(house)
    check_out(house, out)
    check_feelers(house, spots)
    return form_of_out(house, out, spots)


def first_ticks(house, begins, spots):
    """The tuple, OUT by OUT, of the ticks from which they are on by these BEGINS, with spots lost."""
    house, begins, spots = frozen(house), frozen(begins), frozen(spots)
    check_rises(house)
    check_feelers(house, spots)
    return tuple([form_at(form, begins) for form in out_forms(house, spots)])


def begins_from(begins, tick):
    """The BEGINS with each tick below this one raised to it."""
    return tuple([(spot, max(own, tick)) for spot, own in frozen(begins)])


def form_pairs(house, other):
    """The list of the pairs of both HOUSES' FORMS of each OUT."""
    house, other = frozen(house), frozen(other)
    check_rises(house)
    check_rises(other)
    if len(house[3]) != len(other[3]):
        raise Unfit()
    return list(zip(out_forms(house, ()), out_forms(other, ())))


def alike_rising(house, other):
    """Whether all OUTS of both HOUSES are on from the same ticks FOR ALL BEGINS."""
    # Least FORMS are alike by all BEGINS exactly if they are one.
    return all([one == own for one, own in form_pairs(house, other)])


def parting_out(house, other):
    """The pair of the least OUT on from unlike ticks in both HOUSES, and BEGINS by which it is."""
    for out, (form, own) in enumerate(form_pairs(house, other)):
        if form != own:
            if never_above(form, own):
                form, own = own, form
            return (out, parting_begins(form, own))
    raise CanNot()


def with_lines(house, numbers):
    """The HOUSE with these of its LINES alone."""
    return house[:2] + (tuple([house[2][number] for number in numbers]),) + house[3:]


def enough_lines(house):
    """The list of the sets of LINES with which alone all OUTS are on from the same ticks."""
    whole = out_forms(house, ())
    lots = subsets(list(range(len(house[2]))))
    return [lot for lot in lots if out_forms(with_lines(house, lot), ()) == whole]


def needless_lines(house):
    """The set of the LINES without which, each for itself, all OUTS are on from the same ticks."""
    house = frozen(house)
    check_rises(house)
    lots = enough_lines(house)
    numbers = tuple(range(len(house[2])))
    return tuple([number for number in numbers if without_one(numbers, number) in lots])


def line_lots(house):
    """The list, ascending, of the sets of LINES that are enough alone, none of them needless then."""
    house = frozen(house)
    check_rises(house)
    # More LINES than enough are enough, too: none is needless exactly in the sets with no other one in them.
    return least_sets(enough_lines(house))


def hangs_on(house, out, spot):
    """Whether the FORM of this OUT has this SPOT "never", "some" times, or "always", in each ROW."""
    house, spot = frozen(house), frozen(spot)
    check_rises(house)
    check_out(house, out)
    check_feelers(house, (spot,))
    form = form_of_out(house, out, ())
    left = without(form, (spot,))
    if left == form:
        return "never"
    return "some" if left else "always"


def later_without(house, out, spots):
    """By how many ticks at most this OUT is on later with spots lost; None if it is never on by some BEGINS."""
    house, spots = frozen(house), frozen(spots)
    check_rises(house)
    check_out(house, out)
    check_feelers(house, spots)
    whole = form_of_out(house, out, ())
    return late_by(without(whole, spots), whole)


def is_within(late, many):
    """Whether something is late by at most many ticks; None is never."""
    return late is not None and late <= many


def deaf_pairs(house, out, many):
    """The set of the pairs of feelers with which lost this OUT is on more than many ticks later, or never."""
    house = frozen(house)
    check_rises(house)
    check_out(house, out)
    whole = form_of_out(house, out, ())
    if not whole:
        raise CanNot()
    spots = feelers(house)
    return tuple([
        pair for pair in combinations(spots, 2) if not is_within(late_by(without(whole, pair), whole), many)
    ])


def comes_within(house, out, zone, many):
    """Whether an OUT is on at most many ticks behind a ZONE's knock FOR ALL BEGINS; all is there."""
    return is_within(late_by(form_of_out(house, out, ()), form_of_zone(house, zone, ())), many)


def on_within(house, out, zone, many):
    """Whether this OUT is on at most many ticks behind this ZONE's knock FOR ALL BEGINS by which that is."""
    house = frozen(house)
    check_rises(house)
    check_zone(house, zone)
    check_out(house, out)
    return comes_within(house, out, zone, many)


def with_wait(house, line, wait):
    """The HOUSE with this wait of a LINE; tuples throughout."""
    own = house[2][line]
    changed = own[:3] + (wait,) + own[4:]
    return house[:2] + (house[2][:line] + (changed,) + house[2][line + 1:],) + house[3:]


def least_shorter(house, line, out, zone, many):
    """By how much at least this LINE's wait must be less for on_within; None if not even wait 0 does."""
    house = frozen(house)
    check_rises(house)
    check_zone(house, zone)
    check_line(house, line)
    check_out(house, out)
    wait = house[2][line][3]
    for less in range(wait + 1):
        if comes_within(with_wait(house, line, wait - less), out, zone, many):
            return less
    return None


def unlike_forms(house, many, plus):
    """How many unlike FORMS of an OUT there are by at most many LINES with waits to plus."""
    house = frozen(house)
    check_rises(house)
    lines = [
        (0, when, zones, wait, (), 0, 0, 0)
        for zones in subsets(list(range(len(house[1]))))
        for when in ("any", "all")
        for wait in range(plus + 1)
        if zones
    ]
    forms = {form_of_line(house, line, ()): True for line in lines}
    found = {(): True}
    for _ in range(many):
        more = [either(one, own) for one in found for own in forms]
        for form in more:
            found[form] = True
    return len(found)
