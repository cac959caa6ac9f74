"""Plays: what comes tick by tick, the pauses that matter, and all ends of some acts."""

from secondknock.errors import CanNot, NoSpot, NoTick, TooMany, Unfit
from secondknock.houses import is_feeler
from secondknock.ticks import (
    behind_deed,
    behind_tick,
    check_deed,
    check_deeds,
    counters,
    does_change,
    knocked_zones,
    most_patient,
    new_stand,
    ringing,
    sounding_outs,
    speakers,
)
from secondknock.values import as_set, frozen, power

MOST_PAUSES = 400


def checked_play(play):
    """The PLAY in tuples; raises the error of its first DEED that names what is not there."""
    house, speech, deeds, many = frozen(play)
    check_deeds(house, [deed for _, deed in deeds])
    return house, speech, deeds, many


def deeds_at(deeds, tick):
    """The list of the DEEDS told for this tick, in order."""
    return [deed for when, deed in deeds if when == tick]


def stands_from(house, stand, speech, deeds, ticks):
    """The list of the STANDS behind each of these ticks, this one being that ahead; tuples throughout."""
    found = []
    for tick in ticks:
        stand = behind_tick(house, stand, deeds_at(deeds, tick), speakers(speech, tick), tick)
        found.append(stand)
    return found


def stands_of(play):
    """The list of the STANDS of a PLAY; tuples throughout."""
    house, speech, deeds, many = play
    return stands_from(house, new_stand(house), speech, deeds, list(range(many)))


def stands(play):
    """The tuple of the STANDS behind ticks 0, 1, .."""
    return tuple(stands_of(checked_play(play)))


def end_stand(play):
    """The STAND behind the last tick; that at the beginning without ticks."""
    play = checked_play(play)
    return ([new_stand(play[0])] + stands_of(play))[-1]


def stands_on(house, stand, speech, deeds, tick, many):
    """The tuple of the STANDS behind many ticks from this one on, stand being that ahead."""
    house, deeds = frozen(house), frozen(deeds)
    check_deeds(house, [deed for _, deed in deeds])
    return tuple(stands_from(house, frozen(stand), frozen(speech), deeds, list(range(tick, tick + many))))


def first_ticks_in(rows, many):
    """For each number below many the first tick whose row has it; None if none has."""
    return tuple([
        min([tick for tick, row in enumerate(rows) if number in row], default=None) for number in range(many)
    ])


def knock_ticks(play):
    """The tuple with the first tick at which each ZONE is knocked; None if it never is."""
    play = checked_play(play)
    house = play[0]
    return first_ticks_in([knocked_zones(house, stand[4]) for stand in stands_of(play)], len(house[1]))


def on_ticks(play):
    """The tuple with the first tick at which each OUT is on; None if it never is."""
    play = checked_play(play)
    rows = [[number for number, since in enumerate(stand[7]) if since is not None] for stand in stands_of(play)]
    return first_ticks_in(rows, len(play[0][3]))


def stand_at(play, tick):
    """The STAND behind this tick of a PLAY; NoTick if it has none such."""
    if not 0 <= tick < play[3]:
        raise NoTick(tick)
    return stands_of(play[:3] + (tick + 1,))[-1]


def sounded(play, tick):
    """The set of the OUTS that sound at this tick."""
    play = checked_play(play)
    return sounding_outs(play[0], stand_at(play, tick))


def rung(play, tick):
    """The set of the SPOTS of bells that ring at this tick."""
    play = checked_play(play)
    return ringing(play[0], stand_at(play, tick))


def passed_over(play):
    """The set of the positions of the DEEDS, told for ticks of the PLAY, that are passed over."""
    play = checked_play(play)
    house, _, deeds, many = play
    behind = [new_stand(house)] + stands_of(play)
    found = []
    for tick in range(many):
        stand = behind[tick]
        for place, (when, deed) in enumerate(deeds):
            if when == tick:
                if not does_change(stand, deed):
                    found.append(place)
                stand = behind_deed(house, stand, deed)
    return tuple(found)


def stretches_of(ticks, many):
    """The stretches of these ascending ticks; one up to the last tick of many has no end."""
    begins = [tick for tick in ticks if tick - 1 not in ticks]
    ends = [tick + 1 for tick in ticks if tick + 1 not in ticks]
    return tuple([(begin, None if end == many else end) for begin, end in zip(begins, ends)])


def plain_play(play):
    """The PLAY without put-offs and FAULTS, each feeler speaking at just the ticks at which it counts."""
    play = checked_play(play)
    house, speech, deeds, many = play
    ticks = {}
    for tick, stand in enumerate(stands_of(play)):
        for spot in counters(house, stand, speakers(speech, tick)):
            ticks.setdefault(spot, []).append(tick)
    kept = [(when, deed) for when, deed in deeds if deed[0] not in ("off", "on", "harm", "heal")]
    told = tuple([(spot, stretches_of(ticks[spot], many)) for spot in sorted(ticks)])
    return (house, told, tuple(kept), many)


def turn_ticks(play):
    """The set of the turns of a PLAY; tuples throughout."""
    _, speech, deeds, many = play
    marks = [mark for _, stretches in speech for own in stretches for mark in own if mark is not None]
    found = [0] + [when for when, _ in deeds] + marks
    return as_set([tick for tick in found if tick < many])


def turns(play):
    """The set of the turns of this PLAY."""
    return turn_ticks(checked_play(play))


def turns_moved(play, longest):
    """A dict: each turn, and the end, of a PLAY, and where it is if no pause has more ticks than longest."""
    marks = turn_ticks(play) + (play[3],)
    moved = {marks[0]: 0}
    for one, other in zip(marks, marks[1:]):
        moved[other] = moved[one] + min(other - one, longest)
    return moved


def stretch_moved(stretch, moved, many):
    """The stretch with its ticks moved so; what is told from many on is left out."""
    begin, end = stretch
    return (moved[begin], None if end is None or end >= many else moved[end])


def cut_pauses(play):
    """The PLAY in which each long pause has patience and 1 ticks."""
    play = checked_play(play)
    house, speech, deeds, many = play
    moved = turns_moved(play, most_patient(house) + 1)
    told = [
        (spot, tuple([stretch_moved(own, moved, many) for own in stretches if own[0] < many]))
        for spot, stretches in speech
    ]
    return (
        house,
        tuple([own for own in told if own[1] != ()]),
        tuple([(moved[when], deed) for when, deed in deeds if when < many]),
        moved[many],
    )


def later_from(mark, tick, many):
    """A tick, or None, of a PLAY that has many more ticks ahead of this tick."""
    return mark + many if mark is not None and mark >= tick else mark


def drawn_out(play, tick, many):
    """The PLAY with many more ticks ahead of this turn."""
    play = checked_play(play)
    house, speech, deeds, last = play
    if not 0 <= tick < last:
        raise NoTick(tick)
    marks = turn_ticks(play)
    if tick == 0 or tick not in marks or tick - marks[marks.index(tick) - 1] <= most_patient(house):
        raise CanNot()
    told = [
        (spot, tuple([(later_from(begin, tick, many), later_from(end, tick, many)) for begin, end in stretches]))
        for spot, stretches in speech
    ]
    return (house, tuple(told), tuple([(later_from(when, tick, many), deed) for when, deed in deeds]), last + many)


def checked_acts(house, acts):
    """The ACTS in tuples; raises the error of the first one that names what is not there."""
    acts = frozen(acts)
    for act in acts:
        if act[0] not in ("speak", "stop"):
            check_deed(house, act)
        elif not is_feeler(house[0], act[1]):
            raise NoSpot(act[1])
    return acts


def act_ticks(pauses):
    """The list of the ticks of ACTS with these PAUSES."""
    return [sum(pauses[:number + 1]) for number in range(len(pauses))]


def marks_of_acts(acts, pauses):
    """A dict: each SPOT and the ticks at which it begins and stops to speak in turn; None if they do not suit."""
    marks = {}
    for act, tick in zip(acts, act_ticks(pauses)):
        if act[0] in ("speak", "stop"):
            own = marks.setdefault(act[1], [])
            speaks = len(own) % 2 == 1
            if speaks == (act[0] == "speak") or (own and own[-1] >= tick):
                return None
            own.append(tick)
    return marks


def do_suit(acts, pauses):
    """Whether PAUSES suit ACTS; tuples throughout."""
    return len(pauses) == len(acts) and pauses[:1] == (0,) and marks_of_acts(acts, pauses) is not None


def suits(house, acts, pauses):
    """Whether these PAUSES suit these ACTS."""
    return do_suit(checked_acts(frozen(house), acts), frozen(pauses))


def speech_of_marks(marks):
    """The SPEECH of this dict of the ticks at which each SPOT begins and stops to speak in turn."""
    told = []
    for spot in sorted(marks):
        ticks = marks[spot] + [None]
        told.append((spot, tuple([(ticks[at], ticks[at + 1]) for at in range(0, len(ticks) - 1, 2)])))
    return tuple(told)


def play_by(house, acts, pauses):
    """The PLAY of ACTS with PAUSES that suit them; tuples throughout."""
    ticks = act_ticks(pauses)
    deeds = tuple([(tick, act) for act, tick in zip(acts, ticks) if act[0] not in ("speak", "stop")])
    return (house, speech_of_marks(marks_of_acts(acts, pauses)), deeds, ticks[-1] + most_patient(house) + 1)


def play_of(house, acts, pauses):
    """The PLAY of these ACTS with these PAUSES."""
    house, pauses = frozen(house), frozen(pauses)
    acts = checked_acts(house, acts)
    if not do_suit(acts, pauses):
        raise Unfit()
    return play_by(house, acts, pauses)


def suiting_pauses(house, acts):
    """The list, ascending, of all PAUSES that suit ACTS, each to patience and 1; TooMany for too many."""
    longest = most_patient(house) + 1
    if power(longest + 1, len(acts) - 1) > MOST_PAUSES:
        raise TooMany()
    rows = [(0,)]
    for _ in acts[1:]:
        rows = [row + (more,) for row in rows for more in range(longest + 1)]
    return [row for row in rows if do_suit(acts, row)]


def all_pauses(house, acts):
    """The ascending list of all PAUSES that suit these ACTS, each number to patience and 1."""
    house = frozen(house)
    return suiting_pauses(house, checked_acts(house, acts))


def outs_heard(play):
    """The set of all OUTS that sound at some tick of a PLAY; tuples throughout."""
    return as_set([out for stand in stands_of(play) for out in sounding_outs(play[0], stand)])


def ends_of(house, acts):
    """The ascending list of pairs: each set of all OUTS that sound by these ACTS, and its least PAUSES."""
    house = frozen(house)
    acts = checked_acts(house, acts)
    least = {}
    for pauses in suiting_pauses(house, acts):
        outs = outs_heard(play_by(house, acts, pauses))
        least[outs] = min(least.get(outs, pauses), pauses, key=lambda row: (sum(row), row))
    return sorted(least.items())
