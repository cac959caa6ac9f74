"""Logs: where a fire can have started and what was put off, told back from the ticks noted, and orders of knocks."""

from itertools import combinations

from secondknock.compare import outs_of
from secondknock.errors import CanNot, NoPlace
from secondknock.forms import ticks_by_spot
from secondknock.houses import feelers
from secondknock.offs import zone_feelers
from secondknock.rising import check_feelers
from secondknock.silence import check_calm
from secondknock.values import as_set, every_row, frozen, is_number_set, lies_in, subsets
from secondknock.within import least_arrivals, ticks_by_arrivals, times_by


def check_guess(house, places, guess):
    """Raises Unfit, NoPlace, then NoSpot for a GUESS that can not be."""
    check_calm(house)
    if not 0 <= guess[0] < places:
        raise NoPlace(guess[0])
    check_feelers(house, guess[1])


def marks_by(house, places, ways, guess):
    """The tuple of the ticks at which MARKS come by a GUESS that is there, its HOUR being 0; tuples throughout."""
    place, offs = guess
    ticks = ticks_by_arrivals(house, least_arrivals(places, ways, place))
    times = times_by(house, {spot: ticks[spot] for spot in ticks if spot not in offs})
    return times + outs_of(house, times)


def marks_of(house, places, ways, guess):
    """The tuple with the tick at which each MARK comes if the HOUR is 0, None if never."""
    house, guess = frozen(house), frozen(guess)
    check_guess(house, places, guess)
    return marks_by(house, places, frozen(ways), guess)


def hours_by(marks, log, late, tick):
    """The pair of the least and the greatest HOUR with which MARKS that come so at HOUR 0 fit; None if none does."""
    low, highs = 0, []
    for comes, noted in zip(marks, log):
        if noted is None:
            low = low if comes is None else max(low, tick - late + 1 - comes)
        elif noted != "lost":
            if comes is None:
                return None
            low = max(low, noted - late - comes)
            highs.append(noted - comes)
    high = min(highs, default=None)
    return None if high is not None and high < low else (low, high)


def hours_that_fit(house, places, ways, guess, log, late, tick):
    """The pair of the least and the greatest HOUR with which this GUESS fits, None without end; None if none does."""
    return hours_by(marks_of(house, places, ways, guess), frozen(log), late, tick)


def checked_lots(house, lots):
    """Both in tuples; raises Unfit, then NoSpot for the first SPOT of lots that is no feeler's."""
    house, lots = frozen(house), frozen(lots)
    check_calm(house)
    for offs in lots:
        check_feelers(house, offs)
    return house, lots


def guesses_of(places, lots):
    """The list, ascending, of all GUESSES."""
    return [(place, offs) for place in range(places) for offs in lots]


def fitting_of(house, places, ways, lots, log, late, tick):
    """The list, ascending, of the pairs of a GUESS that fits and its HOURS; raises what fitting raises."""
    house, lots = checked_lots(house, lots)
    ways, log = frozen(ways), frozen(log)
    rows = [
        (guess, hours_by(marks_by(house, places, ways, guess), log, late, tick))
        for guess in guesses_of(places, lots)
    ]
    return [(guess, hours) for guess, hours in rows if hours is not None]


def fitting(house, places, ways, lots, log, late, tick):
    """The list, ascending, of the pairs of a GUESS that fits and the pair of its HOURS."""
    return fitting_of(house, places, ways, lots, log, late, tick)


def some_fitting(house, places, ways, lots, log, late, tick):
    """As fitting; raises CanNot, behind all else, if none fits."""
    found = fitting_of(house, places, ways, lots, log, late, tick)
    if not found:
        raise CanNot()
    return found


def burns_at(arrival, high, tick):
    """Whether a place with this arrival burns at tick even at the greatest HOUR."""
    return arrival is not None and high is not None and high + arrival <= tick


def sure_burnt(house, places, ways, lots, log, late, tick):
    """The set of the places that burn at tick in all that fit."""
    found = some_fitting(house, places, ways, lots, log, late, tick)
    rows = [(least_arrivals(places, frozen(ways), place), hours[1]) for (place, _), hours in found]
    return tuple([
        place for place in range(places) if all([burns_at(arrivals[place], high, tick) for arrivals, high in rows])
    ])


def sure_off(house, places, ways, lots, log, late, tick):
    """The set of the SPOTS put off in all that fit."""
    lists = [guess[1] for guess, _ in some_fitting(house, places, ways, lots, log, late, tick)]
    return tuple([spot for spot in lists[0] if all([spot in offs for offs in lists])])


def later_by(span, arrival):
    """The pair of the ticks, from one to the other, at which a FIRE of these HOURS comes; None for never."""
    if arrival is None:
        return None
    low, high = span
    return (low + arrival, None if high is None else high + arrival)


def spans_at(house, places, ways, found, spot):
    """For each pair of what fits the pair of the ticks from which a feeler speaks, None for never."""
    ticks = [ticks_by_arrivals(house, least_arrivals(places, ways, place)) for place in range(places)]
    return [later_by(hours, ticks[place].get(spot)) for (place, _), hours in found]


def speaks_from(house, places, ways, lots, log, late, tick, spot):
    """The pair of the least and the greatest tick from which this feeler speaks by all that fit; None if in none."""
    found = fitting_of(house, places, ways, lots, log, late, tick)
    house, spot = frozen(house), frozen(spot)
    check_feelers(house, (spot,))
    spans = spans_at(house, places, frozen(ways), found, spot)
    told = [span for span in spans if span is not None]
    if not told:
        return None
    highs = [None if span is None else span[1] for span in spans]
    return (min([low for low, _ in told]), None if None in highs else max(highs))


def log_of(log, known):
    """The LOG with all MARKS but these "lost"."""
    return tuple([own if mark in known else "lost" for mark, own in enumerate(log)])


def bars(marks, log, late, tick, known):
    """Whether with no HOUR MARKS that come so fit the LOG in which all but these are "lost"."""
    return hours_by(marks, log_of(log, known), late, tick) is None


def bar_of(house, places, ways, guess, log, late, tick):
    """The least BAR of this GUESS, one MARK ahead of two."""
    marks, log = marks_of(house, places, ways, guess), frozen(log)
    numbers = list(range(len(marks)))
    lots = [(mark,) for mark in numbers] + list(combinations(numbers, 2))
    found = [known for known in lots if bars(marks, log, late, tick, known)]
    if not found:
        raise CanNot()
    return found[0]


def is_bar(house, places, ways, guess, log, late, tick, thing):
    """Whether thing is a BAR of this GUESS."""
    marks = marks_of(house, places, ways, guess)
    if not is_number_set(thing, len(marks)) or len(thing) not in (1, 2):
        return False
    return bars(marks, frozen(log), late, tick, thing)


def barring_lots(house, places, ways, lots, log, late, tick):
    """The list, fewer first, then ascending, of the least sets of MARKS with which, others "lost", no GUESS fits."""
    house, lots = checked_lots(house, lots)
    ways, log = frozen(ways), frozen(log)
    rows = [marks_by(house, places, ways, guess) for guess in guesses_of(places, lots)]
    found = []
    for known in sorted(subsets(list(range(len(log)))), key=lambda own: (len(own), own)):
        lesser = [own for own in found if lies_in(own, known)]
        if not lesser and all([bars(marks, log, late, tick, known) for marks in rows]):
            found = found + [known]
    return found


def is_apart(span, other):
    """Whether two feelers' spans of ticks, None for never, have none in common."""
    if span is None or other is None:
        return span != other
    return (span[1] is not None and span[1] < other[0]) or (other[1] is not None and other[1] < span[0])


def parted_pairs(spans):
    """How many pairs of these spans have no tick, nor never, in common."""
    counts = {}
    for span in spans:
        counts[span] = counts.get(span, 0) + 1
    return sum([
        counts[one] * counts[other] for one, other in combinations(list(counts), 2) if is_apart(one, other)
    ])


def best_look(house, places, ways, lots, log, late, tick):
    """The pair of the least feeler that parts most pairs of GUESSES that fit, and how many these are."""
    found = fitting_of(house, places, ways, lots, log, late, tick)
    house, ways = frozen(house), frozen(ways)
    rows = [(parted_pairs(spans_at(house, places, ways, found, spot)), spot) for spot in feelers(house)]
    if not rows:
        raise CanNot()
    most = max([many for many, _ in rows])
    return (min([spot for many, spot in rows if many == most]), most)


def ranks_of(times):
    """For each of TIMES how many unlike ticks lie ahead of it; None for never."""
    ticks = as_set([own for own in times if own is not None])
    return tuple([None if own is None else ticks.index(own) for own in times])


def order_of(house, begins):
    """The tuple with, for each ZONE, how many unlike ticks of others' knocks lie ahead of its own; None for never."""
    house = frozen(house)
    check_calm(house)
    return ranks_of(times_by(house, ticks_by_spot(frozen(begins))))


# A TALLY of a ZONE is a pair: how many of its SPOTS speak ahead of its own knock, and by then, to knocks.


def tally_with(tally, knocks, rank, level):
    """The TALLY with a SPOT more that speaks at this tick; None if the ZONE is not knocked at rank then."""
    ahead, by_then = tally
    if rank is None or level < rank:
        ahead += 1
    if rank is not None and level <= rank:
        by_then = min(by_then + 1, knocks)
    return (ahead, by_then) if ahead < knocks else None


def tallies_with(house, order, tallies, spot, level):
    """The TALLIES of all ZONES with this SPOT more; None if one can not be."""
    found = tuple([
        tally_with(tally, zone[1], rank, level) if spot in zone[0] else tally
        for tally, zone, rank in zip(tallies, house[1], order)
    ])
    return None if None in found else found


def begins_with(house, order):
    """BEGINS by which ZONES are knocked at these ticks, None for never; None if there are none; tuples throughout."""
    # A tick between two of order, or behind all, is as good as the next one of order, or never.
    levels = as_set([rank for rank in order if rank is not None])
    rows = {tuple([(0, 0) for _ in house[1]]): ()}
    for spot in zone_feelers(house):
        longer = {tallies: begins for tallies, begins in rows.items()}
        for tallies, begins in rows.items():
            for level in levels:
                more = tallies_with(house, order, tallies, spot, level)
                if more is not None:
                    longer.setdefault(more, begins + ((spot, level),))
        rows = longer
    knocks = [own[1] for own in house[1]]
    whole = tuple([rank is None for rank in order])
    good = [
        begins for tallies, begins in rows.items()
        if all([never or own[1] == least for never, own, least in zip(whole, tallies, knocks)])
    ]
    return good[0] if good else None


def knock_orders(house):
    """The list of all orders of knocks, ascending, None above all numbers."""
    house = frozen(house)
    check_calm(house)
    many = len(house[1])
    rows = every_row([list(range(many)) + [None] for _ in range(many)])
    return [order for order in rows if ranks_of(order) == order and begins_with(house, order) is not None]


def order_begins(house, order):
    """BEGINS by which ZONES are knocked in this order."""
    house, order = frozen(house), frozen(order)
    check_calm(house)
    begins = begins_with(house, order) if ranks_of(order) == order else None
    if begins is None:
        raise CanNot()
    return begins
