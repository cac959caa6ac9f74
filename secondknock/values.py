"""Plain values: what every file of the package asks of numbers, tuples and sets."""


def frozen(value):
    """The same value with tuples in the place of lists, at every depth."""
    if isinstance(value, (list, tuple)):
        return tuple([frozen(own) for own in value])
    return value


def is_number(thing):
    """Whether thing is a number from 0; True and False are none."""
    return isinstance(thing, int) and not isinstance(thing, bool) and thing >= 0


def is_below(thing, bound):
    """Whether thing is a number from 0 to below bound."""
    return is_number(thing) and thing < bound


def is_tuple(thing, many):
    """Whether thing is a tuple of so many."""
    return isinstance(thing, tuple) and len(thing) == many


def is_number_pair(thing):
    """Whether thing is a pair of numbers from 0."""
    return is_tuple(thing, 2) and is_number(thing[0]) and is_number(thing[1])


def is_ascending(row):
    """Whether each of row is above the one ahead; all of row compare."""
    return all([one < other for one, other in zip(row, row[1:])])


def is_number_set(thing, bound):
    """Whether thing is a set of numbers from 0 to below bound."""
    return isinstance(thing, tuple) and all([is_below(own, bound) for own in thing]) and is_ascending(thing)


def is_stretch(thing):
    """Whether thing is a stretch of ticks, maybe without an end."""
    if not is_tuple(thing, 2) or not is_number(thing[0]):
        return False
    return thing[1] is None or (is_number(thing[1]) and thing[0] < thing[1])


def are_stretches(thing):
    """Whether thing is a tuple, not (), of stretches, each above the one ahead."""
    if not isinstance(thing, tuple) or len(thing) == 0 or not all([is_stretch(own) for own in thing]):
        return False
    return all([one[1] is not None and one[1] < other[0] for one, other in zip(thing, thing[1:])])


def is_order(order, many):
    """Whether order has each number from 0 to below many, once."""
    return all([is_below(own, many) for own in order]) and sorted(order) == list(range(many))


def places_in(order):
    """A dict: each number of an order, and its place there."""
    return {number: place for place, number in enumerate(order)}


def as_set(row):
    """What is in row, as an ascending tuple without duplicates."""
    return tuple(sorted(set(row)))


def without_one(row, member):
    """The tuple row less this member."""
    return tuple([own for own in row if own != member])


def power(base, exponent):
    """base times itself, so often; by a loop, as the exponent may be any."""
    total = 1
    for _ in range(exponent):
        total = total * base
    return total


def lies_in(row, other):
    """Whether all members of the one set are in the other one."""
    return all([own in other for own in row])


def least_sets(rows):
    """Those of these unlike sets in which no other one of them lies, ascending."""
    return sorted([row for row in rows if not any([lies_in(own, row) and own != row for own in rows])])


def subsets(row):
    """All sets of members of this one."""
    found = [()]
    for member in row:
        found = found + [own + (member,) for own in found]
    return found


def greatest_sets(rows):
    """Those of these unlike sets that lie in no other one of them, ascending."""
    return sorted([row for row in rows if not any([lies_in(row, own) and own != row for own in rows])])


def every_row(lists):
    """The list of all tuples with one of each of these lists, in order."""
    rows = [()]
    for members in lists:
        rows = [row + (own,) for row in rows for own in members]
    return rows


def multiplied(numbers):
    """All these numbers, multiplied."""
    total = 1
    for number in numbers:
        total = total * number
    return total


def spans_in(held, marks):
    """The list of the pairs (from, to): greatest runs of True from one to below the other, none going over marks."""
    many = len(held)
    begins = [at for at in range(many) if held[at] and (at == 0 or at in marks or not held[at - 1])]
    ends = [at for at in range(1, many + 1) if held[at - 1] and (at == many or at in marks or not held[at])]
    return list(zip(begins, ends))
