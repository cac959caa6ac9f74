"""Fewest deeds: what a few DEEDS can bring a PLAY to, and papers that so few can not."""

from secondknock.errors import CanNot, TooMany
from secondknock.houses import check_out, check_zone, is_deed
from secondknock.plays import stands_from
from secondknock.ticks import behind_tick, is_stand, knocked_zones, new_stand, sounding_outs, speakers
from secondknock.values import frozen, is_below, is_number, is_tuple

MOST_TRIPLES = 400


def is_wish(house, thing):
    """Whether thing is a WISH of this HOUSE."""
    _, zones, _, outs, _ = frozen(house)
    if is_tuple(thing, 1):
        return thing[0] == "still"
    if not is_tuple(thing, 2):
        return False
    if thing[0] in ("sounds", "silent"):
        return is_below(thing[1], len(outs))
    return thing[0] in ("seen", "unseen") and is_below(thing[1], len(zones))


def check_wish(house, wish):
    """Raises NoOut or NoZone for what a WISH names and is not there."""
    if wish[0] in ("sounds", "silent"):
        check_out(house, wish[1])
    if wish[0] in ("seen", "unseen"):
        check_zone(house, wish[1])


def is_still_stand(stand):
    """Whether no panel sees a ZONE, no LINE waits, no OUT is on."""
    sights, lines, outs = stand[4], stand[5], stand[7]
    seen = [since for sight in sights for since in sight if since is not None]
    waits = [state for state, _, _ in lines if state == "waits"]
    return seen == [] and waits == [] and all([since is None for since in outs])


def does_meet(house, stand, wish):
    """Whether a STAND meets a WISH; tuples throughout."""
    word = wish[0]
    if word in ("sounds", "silent"):
        return (wish[1] in sounding_outs(house, stand)) == (word == "sounds")
    if word in ("seen", "unseen"):
        return (wish[1] in knocked_zones(house, stand[4])) == (word == "seen")
    return is_still_stand(stand)


def meets(house, stand, wish):
    """Whether this STAND meets this WISH."""
    house, wish = frozen(house), frozen(wish)
    check_wish(house, wish)
    return does_meet(house, frozen(stand), wish)


# A LAYER of a tick is a dict: for pairs (left, stand), the STAND ahead of it, the least DEEDS that lead there.


def steps_from(house, goods, pair, spots, tick):
    """The list of the pairs (DEED or None, the pair behind this tick) to which a pair (left, stand) goes on."""
    left, stand = pair
    found = [(None, (left, behind_tick(house, stand, (), spots, tick)))]
    if left > 0:
        found.extend([(deed, (left - 1, behind_tick(house, stand, (deed,), spots, tick))) for deed in goods])
    return found


def next_layer(house, speech, goods, layer, tick):
    """The LAYER of the next tick."""
    spots = speakers(speech, tick)
    found = {}
    for pair, told in layer.items():
        for deed, behind in steps_from(house, goods, pair, spots, tick):
            own = told if deed is None else told + ((tick, deed),)
            found[behind] = min(found.get(behind, own), own)
    return found


def layers_from(house, stand, speech, goods, ticks, most):
    """The list of the LAYERS of these ticks from this STAND on, and of that behind; TooMany for too many triples."""
    found = [{(most, stand): ()}]
    many = 1
    for tick in ticks:
        found.append(next_layer(house, speech, goods, found[-1], tick))
        many += len(found[-1])
        if many > MOST_TRIPLES:
            raise TooMany()
    return found


def layers_of(house, speech, goods, many, wish, most):
    """The LAYERS of a PLAY, in a HOUSE in tuples; raises NoOut, NoZone, TooMany."""
    check_wish(house, frozen(wish))
    return layers_from(house, new_stand(house), frozen(speech), frozen(goods), list(range(many)), most)


def fewest_told(house, layer, wish):
    """Of the DEEDS of a LAYER that meet a WISH those of fewest, of these the least; None if there are none."""
    rows = [told for (_, stand), told in layer.items() if does_meet(house, stand, wish)]
    return min(rows, key=lambda told: (len(told), told), default=None)


def fewest_hands(house, speech, goods, many, wish, most):
    """Of the HANDS of most that meet this WISH those of fewest DEEDS, of these the least; None if there are none."""
    house = frozen(house)
    layers = layers_of(house, speech, goods, many, wish, most)
    return fewest_told(house, layers[-1], frozen(wish))


def are_deeds_of(house, goods, many, thing):
    """Whether thing is DEEDS, each of goods, at rising ticks below many."""
    if not isinstance(thing, tuple) or not all([is_tuple(own, 2) and is_below(own[0], many) for own in thing]):
        return False
    if not all([one[0] < other[0] for one, other in zip(thing, thing[1:])]):
        return False
    return all([is_deed(house, deed) and deed in goods for _, deed in thing])


def are_hands(house, speech, goods, many, wish, thing):
    """Whether thing is HANDS, of however many DEEDS, that meet this WISH."""
    house, wish = frozen(house), frozen(wish)
    check_wish(house, wish)
    if not are_deeds_of(house, frozen(goods), many, thing):
        return False
    stand = new_stand(house)
    behind = [stand] + stands_from(house, stand, frozen(speech), thing, list(range(many)))
    return does_meet(house, behind[-1], wish)


def hands_borne(house, speech, goods, many, wish, most):
    """The greatest number to most of which no HANDS meet this WISH; None if () does."""
    told = fewest_hands(house, speech, goods, many, wish, most)
    if told is None:
        return most
    return len(told) - 1 if told else None


def hands_paper(house, speech, goods, many, wish, most):
    """A HANDS PAPER: all triples to which any HANDS of most lead."""
    house = frozen(house)
    layers = layers_of(house, speech, goods, many, wish, most)
    if fewest_told(house, layers[-1], frozen(wish)) is not None:
        raise CanNot()
    return tuple([(tick,) + pair for tick, layer in enumerate(layers) for pair in layer])


def is_triple(house, many, most, thing):
    """Whether thing is a triple (tick, left, stand), tick to many, left to most."""
    if not is_tuple(thing, 3) or not is_number(thing[0]) or not is_number(thing[1]):
        return False
    return thing[0] <= many and thing[1] <= most and is_stand(house, thing[2])


def goes_on(house, speech, goods, triple, held):
    """Whether all that a triple goes on to is among the keys of a dict."""
    tick = triple[0]
    steps = steps_from(house, goods, triple[1:], speakers(speech, tick), tick)
    return all([(tick + 1,) + pair in held for _, pair in steps])


def is_hands_paper(house, speech, goods, many, wish, most, thing):
    """Whether thing is a HANDS PAPER."""
    house, speech, goods, wish = frozen(house), frozen(speech), frozen(goods), frozen(wish)
    check_wish(house, wish)
    if not isinstance(thing, tuple) or not all([is_triple(house, many, most, own) for own in thing]):
        return False
    held = {own: True for own in thing}
    if len(held) < len(thing) or (0, most, new_stand(house)) not in held:
        return False
    if any([does_meet(house, own[2], wish) for own in thing if own[0] == many]):
        return False
    return all([goes_on(house, speech, goods, own, held) for own in thing if own[0] < many])


def hands_from(house, stand, speech, goods, tick, many, wish, most):
    """As fewest_hands, from this STAND, the one ahead of tick, at ticks from there on."""
    house, wish = frozen(house), frozen(wish)
    check_wish(house, wish)
    ticks = list(range(tick, many))
    layers = layers_from(house, frozen(stand), frozen(speech), frozen(goods), ticks, most)
    return fewest_told(house, layers[-1], wish)
