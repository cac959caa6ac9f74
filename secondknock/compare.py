"""FOR ALL knock ticks: claims on OUTS, the WAYS in which they fail, and the LOOPS that rule these out."""

from secondknock.errors import TooMany
from secondknock.houses import check_line, check_out, check_zone
from secondknock.islands import line_at_last
from secondknock.rising import with_wait
from secondknock.values import (
    as_set,
    every_row,
    frozen,
    is_below,
    is_number,
    is_number_set,
    is_tuple,
    lies_in,
    multiplied,
    subsets,
)

MOST_WAYS = 4000
LONGEST_WAIT = 60


def ends_by(house, times):
    """For each LINE the pair (state, end) by TIMES; tuples throughout."""
    rows = [line_at_last(line, times) for line in house[2]]
    return tuple([(state, end) for state, _, end in rows])


def lines_by(house, times):
    """The tuple, for each LINE, of the pair (state, end) by these TIMES."""
    return ends_by(frozen(house), frozen(times))


def outs_of(house, times):
    """For each OUT the tick from which it is on by TIMES, None for never; tuples throughout."""
    rows = [(line[5], end) for line, (state, end) in zip(house[2], ends_by(house, times)) if state == "on"]
    return tuple([
        min([end for own, end in rows if own == out], default=None) for out in range(len(house[3]))
    ])


def outs_by(house, times):
    """The tuple of the ticks from which OUTS are on by these TIMES; None for never."""
    return outs_of(frozen(house), frozen(times))


def is_pledge(house, thing):
    """Whether thing is a PLEDGE of this HOUSE."""
    _, zones, _, outs, _ = frozen(house)
    if not isinstance(thing, tuple) or len(thing) < 2 or not is_below(thing[1], len(outs)):
        return False
    word, out, rest = thing[0], thing[1], thing[2:]
    if word == "never":
        return rest == ()
    if word == "sure":
        return len(rest) == 1 and is_number_set(rest[0], len(zones))
    if word == "within":
        return len(rest) == 2 and is_below(rest[0], len(zones)) and is_number(rest[1])
    if word == "ahead":
        return len(rest) == 2 and is_below(rest[0], len(outs)) and rest[0] != out and is_number(rest[1])
    return word == "apart" and len(rest) == 1 and is_below(rest[0], len(outs)) and rest[0] != out


def zones_needed(pledge):
    """The set of the ZONES that are knocked whenever a PLEDGE is broken, whatever the LINES."""
    if pledge[0] == "sure":
        return pledge[2]
    return (pledge[2],) if pledge[0] == "within" else ()


def check_pledge(house, pledge):
    """Raises NoOut, then NoZone for the first that a PLEDGE names and that is not there."""
    check_out(house, pledge[1])
    if pledge[0] in ("ahead", "apart"):
        check_out(house, pledge[2])
    for zone in zones_needed(pledge):
        check_zone(house, zone)


def is_kept(house, pledge, times):
    """Whether TIMES keep a PLEDGE; tuples throughout."""
    outs = outs_of(house, times)
    word, on = pledge[0], outs[pledge[1]]
    if word == "never":
        return on is None
    if word == "apart":
        return on is None or outs[pledge[2]] is None
    if None in [times[zone] for zone in zones_needed(pledge)]:
        return True
    if word == "sure":
        return on is not None
    if word == "within":
        return on is not None and on <= times[pledge[2]] + pledge[3]
    other = outs[pledge[2]]
    return other is None or (on is not None and on + pledge[3] <= other)


def keeps(house, pledge, times):
    """Whether these TIMES keep this PLEDGE."""
    house, pledge = frozen(house), frozen(pledge)
    check_pledge(house, pledge)
    return is_kept(house, pledge, frozen(times))


def cases_of(line, known):
    """The list of the CASES of a LINE if just these ZONES are knocked."""
    called = [zone for zone in line[2] if zone in known]
    if not called or (line[1] == "all" and len(called) < len(line[2])):
        return [None]
    return [(zone, bar) for zone in called for bar in [None] + [own for own in line[4] if own in known]]


def is_on(case):
    """Whether a LINE is on by this CASE."""
    return case is not None and case[1] is None


def lines_of(house, out):
    """The list of the numbers of the LINES of an OUT."""
    return [number for number, line in enumerate(house[2]) if line[5] == out]


def picks_of(house, pledge):
    """The list, ascending, of the tuples of LINES that a WAY of this PLEDGE may have as its picks."""
    word, out = pledge[:2]
    if word == "never":
        return [(own,) for own in lines_of(house, out)]
    if word == "ahead":
        return [(own,) for own in lines_of(house, pledge[2])]
    if word == "apart":
        return every_row([lines_of(house, out), lines_of(house, pledge[2])])
    return [()]


def knocked_sets(house, pledge):
    """The list, ascending, of the sets of ZONES that may be knocked in a WAY."""
    rows = sorted(subsets(list(range(len(house[1])))))
    return [known for known in rows if lies_in(zones_needed(pledge), known)]


def case_lists(house, pledge, known, picks):
    """For each LINE the list of its CASES in WAYS with these ZONES knocked and these picks."""
    silent = lines_of(house, pledge[1]) if pledge[0] == "sure" else []
    return [
        [case for case in cases_of(line, known) if number not in (silent if is_on(case) else picks)]
        for number, line in enumerate(house[2])
    ]


def way_count(house, pledge):
    """How many WAYS there are."""
    return sum([
        multiplied([len(own) for own in case_lists(house, pledge, known, picks)])
        for known in knocked_sets(house, pledge)
        for picks in picks_of(house, pledge)
    ])


def check_ways(house, pledge):
    """Raises NoOut or NoZone for what is not there, TooMany for too many WAYS."""
    check_pledge(house, pledge)
    if way_count(house, pledge) > MOST_WAYS:
        raise TooMany()


def case_place(case):
    """A key by which CASES of a LINE ascend, without a bar ahead of all bars."""
    return () if case is None else (case[0], -1 if case[1] is None else case[1])


def way_place(way):
    """A key by which WAYS with the same ZONES knocked ascend, by CASES, then by picks; they may have more behind."""
    return ([case_place(case) for case in way[1]], way[2])


def ways_to_break(house, pledge):
    """The list of the WAYS to break this PLEDGE: by knocked, then by CASES, then by picks."""
    house, pledge = frozen(house), frozen(pledge)
    check_ways(house, pledge)
    found = []
    for known in knocked_sets(house, pledge):
        ways = [
            (known, cases, picks)
            for picks in picks_of(house, pledge)
            for cases in every_row(case_lists(house, pledge, known, picks))
        ]
        found.extend(sorted(ways, key=way_place))
    return found


def case_bounds(line, case, known):
    """The list of the COMPARISONS of a LINE with this CASE."""
    if case is None:
        return []
    zone, bar = case
    others = [own for own in line[2] if own in known and own != zone]
    found = [(zone, own, 0) if line[1] == "any" else (own, zone, 0) for own in others]
    if bar is not None:
        return found + [(bar, zone, line[3])]
    return found + [(zone, own, -line[3] - 1) for own in line[4] if own in known]


def pledge_bounds(house, pledge, cases, picks):
    """The list of the COMPARISONS by which what is on with these CASES breaks a PLEDGE."""
    word, out = pledge[:2]
    on = [(line[3], case[0]) for line, case in zip(house[2], cases) if line[5] == out and is_on(case)]
    if word == "within":
        return [(pledge[2], zone, wait - pledge[3] - 1) for wait, zone in on]
    if word == "ahead":
        late, own = house[2][picks[0]][3], cases[picks[0]][0]
        return [(own, zone, wait - late + pledge[3] - 1) for wait, zone in on]
    return []


def bounds_of(house, pledge, way):
    """The set of the COMPARISONS of a WAY; tuples throughout."""
    known, cases, picks = way
    found = pledge_bounds(house, pledge, cases, picks)
    for line, case in zip(house[2], cases):
        found = found + case_bounds(line, case, known)
    return as_set(found)


def comparisons(house, pledge, way):
    """The set of the COMPARISONS of this WAY."""
    house, pledge = frozen(house), frozen(pledge)
    check_pledge(house, pledge)
    return bounds_of(house, pledge, frozen(way))


def loop_of(bounds):
    """Some of these comparisons, in a ring, that add up below 0; None without."""
    steps = {}
    for x, y, n in bounds:
        steps[(x, y)] = min(steps.get((x, y), (n, ((x, y, n),))), (n, ((x, y, n),)))
    walks = steps
    # Of rings below 0 the shortest comes to no ZONE twice, so it is no longer than there are ZONES.
    for _ in as_set([x for x, _, _ in bounds]):
        for (begin, end), (total, walk) in walks.items():
            if begin == end and total < 0:
                return walk
        longer = {}
        for (begin, middle), (total, walk) in walks.items():
            for (own, end), (n, step) in steps.items():
                if own == middle:
                    one = (total + n, walk + step)
                    longer[(begin, end)] = min(longer.get((begin, end), one), one)
        walks = longer
    return None


def loop_in(house, pledge, way):
    """A LOOP of this WAY; None without."""
    return loop_of(comparisons(house, pledge, way))


def is_loop(house, pledge, way, thing):
    """Whether thing is a LOOP of this WAY."""
    bounds = comparisons(house, pledge, way)
    if not isinstance(thing, tuple) or thing == () or not all([is_tuple(own, 3) for own in thing]):
        return False
    # True is no number, though it is equal to one.
    if True in [isinstance(number, bool) for own in thing for number in own] or not lies_in(thing, bounds):
        return False
    ahead = thing[1:] + thing[:1]
    return all([one[1] == other[0] for one, other in zip(thing, ahead)]) and sum([n for _, _, n in thing]) < 0


# A REACH of knocked ZONES is a dict: for pairs (x, y) the least n with which x is at most n ticks behind y.


def with_bound(reach, bound):
    """The REACH with one comparison more; None if nothing is left."""
    x, y, n = bound
    if (x, y) in reach and reach[(x, y)] <= n:
        return reach
    if (y, x) in reach and reach[(y, x)] + n < 0:
        return None
    found = {pair: reach[pair] for pair in reach}
    for (begin, own), ahead in reach.items():
        for (middle, end), behind in reach.items():
            if own == x and middle == y:
                total = ahead + n + behind
                found[(begin, end)] = min(found.get((begin, end), total), total)
    return found


def with_bounds(reach, bounds):
    """The REACH with these comparisons more; None if nothing is left."""
    for bound in bounds:
        if reach is None:
            return None
        reach = with_bound(reach, bound)
    return reach


def open_ways(house, pledge, known):
    """The list of the pairs of a WAY with these ZONES knocked, and its REACH but for the PLEDGE's comparisons."""
    found = []
    for picks in picks_of(house, pledge):
        rows = [((), {(zone, zone): 0 for zone in known})]
        for line, cases in zip(house[2], case_lists(house, pledge, known, picks)):
            rows = [
                (told + (case,), with_bounds(own, case_bounds(line, case, known)))
                for told, own in rows
                for case in cases
            ]
            rows = [row for row in rows if row[1] is not None]
        found.extend([((known, cases, picks), own) for cases, own in rows])
    return found


def first_open(house, pledge):
    """The pair of the first WAY without a LOOP, and its REACH; None without."""
    for known in knocked_sets(house, pledge):
        rows = [
            (way, with_bounds(reach, pledge_bounds(house, pledge, way[1], way[2])))
            for way, reach in open_ways(house, pledge, known)
        ]
        rows = [row for row in rows if row[1] is not None]
        if rows:
            return min(rows, key=lambda row: way_place(row[0]))
    return None


def least_times(house, way, reach):
    """The TIMES of the least ticks that a WAY with this REACH lets."""
    least = {zone: 0 for zone in way[0]}
    for (_, zone), n in reach.items():
        least[zone] = max(least[zone], -n)
    return tuple([least.get(zone) for zone in range(len(house[1]))])


def times_that_break(house, pledge):
    """The least TIMES of the first WAY without a LOOP; None if the PLEDGE holds; tuples throughout."""
    found = first_open(house, pledge)
    return None if found is None else least_times(house, found[0], found[1])


def breaking_times(house, pledge):
    """The TIMES of the least ticks that the first WAY without a LOOP lets; None if this PLEDGE holds."""
    house, pledge = frozen(house), frozen(pledge)
    check_ways(house, pledge)
    return times_that_break(house, pledge)


def holds(house, pledge):
    """Whether all TIMES keep this PLEDGE."""
    return breaking_times(house, pledge) is None


def most_behind(house, way, reach, out):
    """By how much an OUT is on behind its WAY's pick at the most; None if it may be whatever late, or never on."""
    pick = way[2][0]
    own = way[1][pick][0]
    on = [(line[3], case[0]) for line, case in zip(house[2], way[1]) if line[5] == out and is_on(case)]
    late = [reach[(zone, own)] + wait for wait, zone in on if (zone, own) in reach]
    return min(late) - house[2][pick][3] if late else None


def lead_of(house, out, other):
    """The greatest n with which "ahead" says what is so of these OUTS; None if no n does, or all do."""
    house, pledge = frozen(house), ("ahead", out, other, 0)
    check_ways(house, pledge)
    late = [
        most_behind(house, way, reach, out)
        for known in knocked_sets(house, pledge)
        for way, reach in open_ways(house, pledge, known)
    ]
    return None if late == [] or None in late else -max(late)


def least_wait(house, pledge, line):
    """The least wait to 60 of this LINE with which this PLEDGE holds; None without."""
    house, pledge = frozen(house), frozen(pledge)
    check_pledge(house, pledge)
    check_line(house, line)
    check_ways(house, pledge)
    times = None
    for wait in range(LONGEST_WAIT + 1):
        changed = with_wait(house, line, wait)
        # TIMES that broke it with the wait ahead mostly break it again.
        if times is None or is_kept(changed, pledge, times):
            times = times_that_break(changed, pledge)
            if times is None:
                return wait
    return None


def in_order(house, outs):
    """Whether "ahead" holds with n 0 for each two neighbours of these OUTS."""
    house, outs = frozen(house), frozen(outs)
    for out in outs:
        check_out(house, out)
    return all([holds(house, ("ahead", one, other, 0)) for one, other in zip(outs, outs[1:])])
