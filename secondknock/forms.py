"""Forms: the first tick of something, told as the earliest of the latest of some feelers' ticks."""

from itertools import combinations

from secondknock.errors import CanNot, TooMany
from secondknock.values import as_set, frozen, is_ascending, is_number, is_number_pair, is_tuple

MOST_ROWS = 400


def are_spot_numbers(thing):
    """Whether thing is a tuple of pairs (spot, number), the SPOTS ascending, whatever they are."""
    if not isinstance(thing, tuple) or not all([is_tuple(own, 2) for own in thing]):
        return False
    if not all([is_number_pair(own[0]) and is_number(own[1]) for own in thing]):
        return False
    return is_ascending([own[0] for own in thing])


def is_form_row(thing):
    """Whether thing is a ROW, of whatever SPOTS."""
    return are_spot_numbers(thing) and len(thing) > 0


def is_form(thing):
    """Whether thing is a FORM, of whatever SPOTS."""
    return isinstance(thing, tuple) and all([is_form_row(own) for own in thing]) and is_ascending(thing)


def is_begins(thing):
    """Whether thing are BEGINS, of whatever SPOTS."""
    return are_spot_numbers(thing)


def ticks_by_spot(pairs):
    """A dict of these pairs of a SPOT and a number."""
    return {spot: number for spot, number in pairs}


def row_value(row, ticks):
    """The value of a ROW by a dict of ticks; None for never."""
    if not all([spot in ticks for spot, _ in row]):
        return None
    return max([ticks[spot] + plus for spot, plus in row])


def form_value(form, ticks):
    """The value of a FORM by a dict of ticks; None for never."""
    values = [row_value(row, ticks) for row in form]
    return min([own for own in values if own is not None], default=None)


def form_at(form, begins):
    """The value of this FORM by these BEGINS; None for never."""
    return form_value(frozen(form), ticks_by_spot(frozen(begins)))


def rows_at(form, begins):
    """The set of the ROWS of this FORM that have its value; () if it is never."""
    form, ticks = frozen(form), ticks_by_spot(frozen(begins))
    least = form_value(form, ticks)
    return tuple([row for row in form if least is not None and row_value(row, ticks) == least])


def covers(pluses, row):
    """Whether a ROW, as a dict, lies over the other one."""
    return all([spot in pluses and pluses[spot] >= plus for spot, plus in row])


def lies_over(row, other):
    """Whether row lies over the other ROW."""
    return covers(ticks_by_spot(frozen(row)), frozen(other))


def is_over_some(row, form):
    """Whether the ROW lies over one of those of form."""
    pluses = ticks_by_spot(row)
    return any([covers(pluses, own) for own in form])


def row_weight(row):
    """A key by which each ROW that lies over another one comes behind it."""
    return (len(row), sum([plus for _, plus in row]))


def least_rows(rows):
    """The least FORM of these ROWS."""
    # Those that lie over another one lie over one that does not, and that has no more pairs and pluses.
    found = []
    for row in sorted(as_set(rows), key=row_weight):
        if not is_over_some(row, found):
            found.append(row)
    return as_set(found)


def least_form(form):
    """The FORM of the ROWS of this one that lie over no other one."""
    return least_rows(frozen(form))


def knock_form(spots, number):
    """The FORM of the tick at which so many, 1 or 2, of spots speak."""
    spots = frozen(spots)
    if number == 1:
        return tuple([((spot, 0),) for spot in spots])
    return tuple([((one, 0), (other, 0)) for one, other in combinations(spots, 2)])


def after(form, plus):
    """The FORM with plus more in each pair."""
    return tuple([tuple([(spot, own + plus) for spot, own in row]) for row in frozen(form)])


def either(form, other):
    """The least FORM of the earlier of both."""
    form, other = frozen(form), frozen(other)
    if len(form) + len(other) > MOST_ROWS:
        raise TooMany()
    return least_rows(form + other)


def both_rows(row, other):
    """The ROW of the later of both ROWS."""
    pluses = ticks_by_spot(row)
    for spot, plus in other:
        pluses[spot] = max(pluses.get(spot, 0), plus)
    return tuple(sorted(pluses.items()))


def both(form, other):
    """The least FORM of the later of both."""
    form, other = frozen(form), frozen(other)
    if len(form) * len(other) > MOST_ROWS:
        raise TooMany()
    return least_rows([both_rows(one, own) for one in form for own in other])


def without(form, spots):
    """The FORM if these SPOTS never speak."""
    form, spots = frozen(form), frozen(spots)
    return tuple([row for row in form if not any([spot in spots for spot, _ in row])])


def rows_apart(form, other):
    """The list of the ROWS of other that lie over none of form; tuples throughout."""
    return [row for row in other if not is_over_some(row, form)]


def never_above(form, other):
    """Whether by no BEGINS the value of form is later than that of other."""
    return rows_apart(frozen(form), frozen(other)) == []


def forms_alike(form, other):
    """Whether both have the same value by all BEGINS."""
    return never_above(form, other) and never_above(other, form)


def begins_of_row(row):
    """The BEGINS by which each tick of a ROW with its plus is its greatest plus; tuples throughout."""
    most = max([plus for _, plus in row])
    return tuple([(spot, most - plus) for spot, plus in row])


def row_begins(row):
    """The BEGINS of the SPOTS of this ROW by which each tick with its plus added is its greatest plus."""
    return begins_of_row(frozen(row))


def parting_begins(form, other):
    """BEGINS by which form is later than other."""
    apart = rows_apart(frozen(form), frozen(other))
    if not apart:
        raise CanNot()
    return begins_of_row(apart[0])


def is_parting(form, other, thing):
    """Whether thing is BEGINS by which form is later than other."""
    if not is_begins(thing):
        return False
    late, soon = form_at(form, thing), form_at(other, thing)
    return soon is not None and (late is None or late > soon)


def row_late_by(form, row):
    """By how many ticks form is later than a ROW at the most; None if it is never by some BEGINS of this."""
    pluses = ticks_by_spot(row)
    late = [
        max([plus - pluses[spot] for spot, plus in own])
        for own in form
        if all([spot in pluses for spot, _ in own])
    ]
    return min(late, default=None)


def late_by(form, other):
    """The greatest number of ticks by which form is later than other, where that has one; None for never."""
    form, other = frozen(form), frozen(other)
    if not other:
        raise CanNot()
    late = [row_late_by(form, row) for row in other]
    return None if None in late else max(late)
