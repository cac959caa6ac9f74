"""One judge: claims of six words, papers against those that fall, reasons for those that stand."""

from secondknock.compare import breaking_times, is_loop, is_pledge, keeps, loop_in, ways_to_break
from secondknock.cutoffs import bare_count, cut_house
from secondknock.errors import CanNot, Unfit
from secondknock.faults import faults_of
from secondknock.forms import form_at, is_begins
from secondknock.hands import are_hands, fewest_hands, hands_paper, is_hands_paper, is_wish
from secondknock.houses import are_feelers, feelers, is_deed, is_feeler, is_house, is_speech, rises
from secondknock.mending import first_harm, left_along, taken_by
from secondknock.rings import heard_spots, is_fault
from secondknock.rising import alike_rising, form_pairs, parting_out
from secondknock.ticks import are_ticks
from secondknock.values import (
    as_set,
    frozen,
    is_ascending,
    is_below,
    is_number,
    is_number_pair,
    is_number_set,
    is_tuple,
    lies_in,
)
from secondknock.works import noise_of, noisy_spots, place_at

WITH_REASONS = ("pledge", "hands")


def is_pledge_claim(claim):
    """Whether a tuple with a HOUSE is a CLAIM that a PLEDGE holds."""
    return len(claim) == 3 and is_pledge(claim[1], claim[2])


def are_goods(house, thing):
    """Whether thing is a set of DEEDS of a HOUSE, however many."""
    return isinstance(thing, tuple) and all([is_deed(house, own) for own in thing]) and is_ascending(thing)


def is_hands_claim(claim):
    """Whether a tuple with a HOUSE is a CLAIM that no HANDS meet a WISH."""
    if len(claim) != 7:
        return False
    _, house, speech, goods, many, wish, most = claim
    if not is_speech(house, speech) or not are_goods(house, goods) or not is_wish(house, wish):
        return False
    return is_number(many) and is_number(most)


def is_alike_claim(claim):
    """Whether a tuple with a HOUSE is a CLAIM that it is alike another one, both rising."""
    if len(claim) != 3 or not is_house(claim[2]):
        return False
    _, house, other = claim
    return rises(house) and rises(other) and len(house[3]) == len(other[3])


def is_mending_claim(claim):
    """Whether a tuple with a HOUSE is a CLAIM that an ORDER of FAULTS is safe."""
    if len(claim) != 3 or not isinstance(claim[2], tuple):
        return False
    _, house, order = claim
    return all([is_fault(house[0], own) for own in order]) and is_ascending(sorted([own[1] for own in order]))


def is_cuts_claim(claim):
    """Whether a tuple with a HOUSE is a CLAIM that cuts hold."""
    if len(claim) != 5:
        return False
    _, house, ring, keep, cuts = claim
    if not is_below(ring, len(house[0])) or bare_count(house, ring) == 0:
        return False
    if not is_tuple(keep, len(house[1])) or not all([is_number(own) for own in keep]):
        return False
    return is_number_set(cuts, bare_count(house, ring) + 1)


def is_still_claim(claim):
    """Whether a tuple with a HOUSE is a CLAIM that it is still."""
    if len(claim) != 4:
        return False
    _, house, works, offs = claim
    places = [place_at(house, spot) for spot in feelers(house)]
    return is_number_set(works, max(places, default=0) + 1) and lies_in(works, places) and are_feelers(house[0], offs)


CLAIMS = {
    "pledge": is_pledge_claim,
    "hands": is_hands_claim,
    "alike": is_alike_claim,
    "mending": is_mending_claim,
    "cuts": is_cuts_claim,
    "still": is_still_claim,
}


def is_claim(thing):
    """Whether thing is a CLAIM."""
    if not isinstance(thing, tuple) or len(thing) < 2 or not isinstance(thing[0], str):
        return False
    if thing[0] not in CLAIMS or not is_house(thing[1]):
        return False
    check = CLAIMS[thing[0]]
    return check(thing)


def checked_claim(claim):
    """The CLAIM in tuples; raises Unfit if it is none."""
    claim = frozen(claim)
    if not is_claim(claim):
        raise Unfit()
    return claim


def pledge_fallen(claim):
    """TIMES that do not keep the PLEDGE; None if it holds."""
    return breaking_times(claim[1], claim[2])


def hands_fallen(claim):
    """HANDS that meet the WISH; None if there are none."""
    rest = claim[1:]
    return fewest_hands(*rest)


def alike_fallen(claim):
    """An OUT and BEGINS by which both HOUSES part; None if they are alike."""
    return None if alike_rising(claim[1], claim[2]) else parting_out(claim[1], claim[2])


def mending_fallen(claim):
    """The number of a healing and a SPOT that it takes; None if the ORDER is safe."""
    harm = first_harm(claim[1][0], as_set(claim[2]), claim[2])
    return None if harm is None else (harm[0], harm[1][0])


def leaves_less(house, keep, fault):
    """Whether with this FAULT some ZONE has fewer SPOTS that are heard than it is to keep."""
    there = heard_spots(house[0], (fault,))
    return not all([len([spot for spot in zone[0] if spot in there]) >= own for zone, own in zip(house[1], keep)])


def cuts_fallen(claim):
    """A FAULT on the RING cut so by which some ZONE has less; None if the cuts hold."""
    _, house, ring, keep, cuts = claim
    cut = cut_house(house, ring, cuts)
    found = [fault for fault in faults_of(cut[0][ring], ring) if leaves_less(cut, keep, fault)]
    return found[0] if found else None


def still_fallen(claim):
    """A ZONE and SPOTS that have it knocked; None if it is still."""
    _, house, works, offs = claim
    found = noise_of(house, works, offs)
    return found[0] if found else None


FALLEN = {
    "pledge": pledge_fallen,
    "hands": hands_fallen,
    "alike": alike_fallen,
    "mending": mending_fallen,
    "cuts": cuts_fallen,
    "still": still_fallen,
}


def paper_of(claim):
    """A PAPER against a CLAIM in tuples; None if it stands."""
    find = FALLEN[claim[0]]
    return find(claim)


def paper_against(claim):
    """A PAPER against this CLAIM; None if it stands."""
    return paper_of(checked_claim(claim))


def is_so(claim):
    """Whether this CLAIM stands."""
    return paper_against(claim) is None


def is_pledge_paper(claim, thing):
    """Whether thing is TIMES that do not keep the PLEDGE."""
    _, house, pledge = claim
    return are_ticks(thing, len(house[1])) and not keeps(house, pledge, thing)


def is_hands_against(claim, thing):
    """Whether thing is HANDS that meet the WISH, of no more DEEDS than the CLAIM has."""
    _, house, speech, goods, many, wish, most = claim
    return are_hands(house, speech, goods, many, wish, thing) and len(thing) <= most


def is_alike_paper(claim, thing):
    """Whether thing is an OUT and BEGINS, of feelers of one of both HOUSES each, by which they part."""
    _, house, other = claim
    forms = form_pairs(house, other)
    if not is_tuple(thing, 2) or not is_below(thing[0], len(forms)) or not is_begins(thing[1]):
        return False
    out, begins = thing
    if not all([is_feeler(house[0], spot) or is_feeler(other[0], spot) for spot, _ in begins]):
        return False
    return form_at(forms[out][0], begins) != form_at(forms[out][1], begins)


def is_mending_paper(claim, thing):
    """Whether thing is the number of a healing and a SPOT that it takes."""
    _, house, order = claim
    if not is_tuple(thing, 2) or not is_below(thing[0], len(order)) or not is_number_pair(thing[1]):
        return False
    number, spot = thing
    return spot in taken_by(house[0], left_along(as_set(order), order)[number], order[number])


def is_cuts_paper(claim, thing):
    """Whether thing is a FAULT on the RING cut so by which some ZONE has less."""
    _, house, ring, keep, cuts = claim
    cut = cut_house(house, ring, cuts)
    return is_fault(cut[0], thing) and thing[1][0] == ring and leaves_less(cut, keep, thing)


def is_still_paper(claim, thing):
    """Whether thing is a ZONE and as many of its SPOTS as knocks, at works and not put off."""
    _, house, works, offs = claim
    if not is_tuple(thing, 2) or not is_below(thing[0], len(house[1])) or not are_feelers(house[0], thing[1]):
        return False
    zone = house[1][thing[0]]
    return len(thing[1]) == zone[1] and lies_in(thing[1], noisy_spots(house, zone, works, offs))


PAPERS = {
    "pledge": is_pledge_paper,
    "hands": is_hands_against,
    "alike": is_alike_paper,
    "mending": is_mending_paper,
    "cuts": is_cuts_paper,
    "still": is_still_paper,
}


def is_paper_against(claim, thing):
    """Whether thing is a PAPER against this CLAIM."""
    claim = checked_claim(claim)
    check = PAPERS[claim[0]]
    return check(claim, thing)


def reason_for(claim):
    """A REASON for this CLAIM; None if it does not stand."""
    claim = checked_claim(claim)
    if claim[0] not in WITH_REASONS:
        raise CanNot()
    if paper_of(claim) is not None:
        return None
    rest = claim[1:]
    if claim[0] == "hands":
        return hands_paper(*rest)
    return tuple([loop_in(claim[1], claim[2], way) for way in ways_to_break(*rest)])


def is_reason_for(claim, thing):
    """Whether thing is a REASON for this CLAIM; False for words that have none."""
    claim = checked_claim(claim)
    rest = claim[1:]
    if claim[0] == "hands":
        return is_hands_paper(*rest, thing)
    if claim[0] != "pledge":
        return False
    ways = ways_to_break(*rest)
    if not is_tuple(thing, len(ways)):
        return False
    return all([is_loop(claim[1], claim[2], way, own) for way, own in zip(ways, thing)])


def first_fallen(claims):
    """The pair of the number of the first of these CLAIMS that does not stand and a PAPER; None if all stand."""
    claims = [checked_claim(claim) for claim in claims]
    for number, claim in enumerate(claims):
        paper = paper_of(claim)
        if paper is not None:
            return (number, paper)
    return None
