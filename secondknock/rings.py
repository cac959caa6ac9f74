"""Rings of wire fed from both ends: what is heard on them with faults."""

from secondknock.errors import NoGap, NoRing, NoSpot
from secondknock.values import as_set, frozen, is_ascending, is_number, is_number_pair, is_tuple

CUT = ("cut",)


def is_piece(thing):
    """Whether thing is a PIECE, of whatever place or OUT."""
    if is_tuple(thing, 1):
        return thing[0] == "cut"
    return is_tuple(thing, 2) and thing[0] in ("feel", "bell") and is_number(thing[1])


def is_ring(thing):
    """Whether thing is a RING, its panel, places and OUTS any numbers."""
    if not is_tuple(thing, 2) or not is_number(thing[0]):
        return False
    pieces = thing[1]
    return isinstance(pieces, tuple) and len(pieces) > 0 and all([is_piece(own) for own in pieces])


def is_spot(rings, thing):
    """Whether thing is a SPOT of these RINGS."""
    return is_number_pair(thing) and thing[0] < len(rings) and thing[1] < len(rings[thing[0]][1])


def is_gap(rings, thing):
    """Whether thing is a GAP of these RINGS; there is one more than there are PIECES."""
    return is_number_pair(thing) and thing[0] < len(rings) and thing[1] <= len(rings[thing[0]][1])


def is_fault(rings, thing):
    """Whether thing is a FAULT on a GAP of these RINGS."""
    return is_tuple(thing, 2) and thing[0] in ("break", "short") and is_gap(rings, thing[1])


def are_faults(rings, thing):
    """Whether thing is a set of FAULTS of rings, at most one on a GAP."""
    rings = frozen(rings)
    if not isinstance(thing, tuple) or not all([is_fault(rings, own) for own in thing]):
        return False
    return is_ascending(thing) and is_ascending(sorted([own[1] for own in thing]))


def check_ring(rings, number):
    """Raises NoRing if no RING has this number."""
    if not 0 <= number < len(rings):
        raise NoRing(number)


def check_spot(rings, spot):
    """Raises NoSpot if this is no SPOT of these RINGS."""
    if not is_spot(rings, spot):
        raise NoSpot(spot)


def check_gap(rings, gap):
    """Raises NoGap if this is no GAP of these RINGS."""
    if not is_gap(rings, gap):
        raise NoGap(gap)


def check_faults(rings, faults):
    """Raises NoGap for the first of faults whose GAP is none of these RINGS."""
    for _, gap in faults:
        check_gap(rings, gap)


def sections_of(ring):
    """The list of the sections of a RING, each the tuple of the numbers of its PIECES."""
    found = []
    section = ()
    for number, piece in enumerate(frozen(ring)[1]):
        if piece == CUT:
            found.append(section)
            section = ()
        else:
            section = section + (number,)
    return found + [section]


def section_of(rings, gap):
    """The number of the section in which a GAP lies."""
    rings, gap = frozen(rings), frozen(gap)
    check_gap(rings, gap)
    ring, number = gap
    # A GAP is the wire ahead of its PIECE, so a cut-off there ends the GAP's section, and counts no more.
    return len([own for own in rings[ring][1][:number] if own == CUT])


def section_start(pieces, number):
    """The least PIECE, or where it would be, of the section of GAP number."""
    start = number
    while start > 0 and pieces[start - 1] != CUT:
        start -= 1
    return start


def section_end(pieces, number):
    """The cut-off, or the number of PIECES for B, behind the section of GAP number."""
    end = number
    while end < len(pieces) and pieces[end] != CUT:
        end += 1
    return end


def reach_from_a(pieces, near):
    """The number below which PIECES are heard from A if near is the first FAULT from there."""
    if near is None:
        return len(pieces)
    number = near[1][1]
    return number if near[0] == "break" else section_start(pieces, number)


def reach_from_b(pieces, far):
    """The number from which on PIECES are heard from B if far is the first FAULT from there."""
    if far is None:
        return 0
    number = far[1][1]
    return number if far[0] == "break" else section_end(pieces, number)


def bare_numbers(pieces):
    """The numbers of the PIECES, but cut-offs."""
    return [number for number, own in enumerate(pieces) if own != CUT]


def heard_pieces(pieces, near, far):
    """The set of the numbers of the PIECES heard with these first FAULTS from A and from B, or None."""
    below, above = reach_from_a(pieces, near), reach_from_b(pieces, far)
    return tuple([number for number in bare_numbers(pieces) if number < below or number >= above])


def gap_number(fault):
    """The number of the GAP of a FAULT on its RING."""
    return fault[1][1]


def first_faults(faults, number):
    """The pair of the first FAULT from A and the first one from B of this RING, None without one."""
    own = [fault for fault in faults if fault[1][0] == number]
    if not own:
        return None, None
    return min(own, key=gap_number), max(own, key=gap_number)


def hears(rings, faults, spot):
    """Whether the SPOT is heard; all is there, tuples throughout."""
    number, at = spot
    pieces = rings[number][1]
    if pieces[at] == CUT:
        return False
    near, far = first_faults(faults, number)
    return at < reach_from_a(pieces, near) or at >= reach_from_b(pieces, far)


def heard_spots(rings, faults):
    """The set of all SPOTS heard; all is there, tuples throughout."""
    found = []
    for number, (_, pieces) in enumerate(rings):
        near, far = first_faults(faults, number)
        found.extend([(number, at) for at in heard_pieces(pieces, near, far)])
    return tuple(found)


def first_from_a(rings, faults, number):
    """The FAULT of this RING on the least of its GAPS; None without one."""
    rings, faults = frozen(rings), frozen(faults)
    check_ring(rings, number)
    check_faults(rings, faults)
    return first_faults(faults, number)[0]


def first_from_b(rings, faults, number):
    """The FAULT of this RING on the greatest of its GAPS; None without one."""
    rings, faults = frozen(rings), frozen(faults)
    check_ring(rings, number)
    check_faults(rings, faults)
    return first_faults(faults, number)[1]


def heard_from_a(rings, faults, number):
    """The set of the numbers of the PIECES of this RING heard from A."""
    near = first_from_a(rings, faults, number)
    pieces = frozen(rings)[number][1]
    below = reach_from_a(pieces, near)
    return tuple([own for own in bare_numbers(pieces) if own < below])


def heard_from_b(rings, faults, number):
    """The set of the numbers of the PIECES of this RING heard from B."""
    far = first_from_b(rings, faults, number)
    pieces = frozen(rings)[number][1]
    above = reach_from_b(pieces, far)
    return tuple([own for own in bare_numbers(pieces) if own >= above])


def heard(rings, faults):
    """The set of all SPOTS heard."""
    rings, faults = frozen(rings), frozen(faults)
    check_faults(rings, faults)
    return heard_spots(rings, faults)


def is_heard(rings, faults, spot):
    """Whether this SPOT is heard; a cut-off is not."""
    rings, faults, spot = frozen(rings), frozen(faults), frozen(spot)
    check_spot(rings, spot)
    check_faults(rings, faults)
    return hears(rings, faults, spot)


def lost(rings, faults):
    """The set of the SPOTS, but cut-offs, that are not heard."""
    rings = frozen(rings)
    there = heard(rings, faults)
    bare = [(number, at) for number, (_, pieces) in enumerate(rings) for at in bare_numbers(pieces)]
    return tuple([spot for spot in bare if spot not in there])


def heard_by(ring, near, far):
    """The set of the numbers of the PIECES heard if these are the first FAULTS from A and from B."""
    pieces = frozen(ring)[1]
    near, far = frozen(near), frozen(far)
    for fault in (near, far):
        if not 0 <= gap_number(fault) <= len(pieces):
            raise NoGap(fault[1])
    return heard_pieces(pieces, near, far)


def opened(rings, faults, number):
    """The set of the numbers of the cut-offs that open, -1 for A, the number of PIECES for B."""
    near = first_from_a(rings, faults, number)
    far = first_from_b(rings, faults, number)
    pieces = frozen(rings)[number][1]
    found = []
    if near is not None and near[0] == "short":
        found.append(section_start(pieces, gap_number(near)) - 1)
    if far is not None and far[0] == "short":
        found.append(section_end(pieces, gap_number(far)))
    return as_set(found)
