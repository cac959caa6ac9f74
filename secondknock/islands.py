"""Islands of panels while links are parted, and what each of them sees, FOR ALL ticks told."""

from secondknock.errors import NoPanel
from secondknock.houses import check_line, check_panel, check_zone, link_count, zone_panel
from secondknock.values import as_set, frozen, least_sets, spans_in, subsets, without_one


def check_links(panels, links):
    """Raises NoPanel for the first of links that so many panels do not have."""
    for link in links:
        if not 0 <= link < link_count(panels):
            raise NoPanel(link)


def check_link_deeds(house, deeds):
    """Raises NoPanel for the link of the first DEED that names none of this HOUSE."""
    check_links(house[4], [deed[1] for _, deed in deeds])


def joined_panels(panels, parted, panel):
    """The set of the panels of one island with this panel."""
    found = [panel]
    for _ in range(panels):
        for link in range(link_count(panels)):
            ends = (link, (link + 1) % panels)
            if link not in parted and (ends[0] in found or ends[1] in found):
                found.extend(ends)
    return as_set(found)


def island_rows(panels, parted):
    """For each panel its island."""
    return tuple([joined_panels(panels, parted, panel) for panel in range(panels)])


def island_of(panels, parted, panel):
    """The set of the panels of the island of this panel."""
    parted = frozen(parted)
    check_links(panels, parted)
    check_panel(panels, panel)
    return joined_panels(panels, parted, panel)


def islands(panels, parted):
    """The list, ascending, of all islands."""
    parted = frozen(parted)
    check_links(panels, parted)
    return list(as_set(island_rows(panels, parted)))


def alike_parted(panels, parted, other):
    """Whether both sets of links leave the same islands."""
    parted, other = frozen(parted), frozen(other)
    check_links(panels, parted)
    check_links(panels, other)
    return island_rows(panels, parted) == island_rows(panels, other)


def parted_by(deeds, tick):
    """The set of the links parted at this tick, behind its DEEDS; all are there."""
    found = ()
    for when, (word, link) in deeds:
        if when <= tick:
            found = without_one(found, link)
            found = found + (link,) if word == "part" else found
    return as_set(found)


def parted_at(house, deeds, tick):
    """The set of the links parted at this tick, behind its DEEDS."""
    house, deeds = frozen(house), frozen(deeds)
    check_link_deeds(house, deeds)
    return parted_by(deeds, tick)


def rows_by_tick(house, deeds, many):
    """For each tick the islands of the panels behind its DEEDS."""
    return [island_rows(house[4], parted_by(deeds, tick)) for tick in range(many)]


def joined_stretches(house, deeds, panel, other, many):
    """The tuple of the greatest stretches of ticks at which both panels are in one island."""
    house, deeds = frozen(house), frozen(deeds)
    check_link_deeds(house, deeds)
    check_panel(house[4], panel)
    check_panel(house[4], other)
    joined = [other in row[panel] for row in rows_by_tick(house, deeds, many)]
    return tuple(spans_in(joined, ()))


def first_seen(house, times, rows, panel, zone):
    """The first tick, by these islands of each tick, at which the panel sees the ZONE; None without."""
    if times[zone] is None:
        return None
    own = zone_panel(house, zone)
    ticks = [tick for tick in range(times[zone], len(rows)) if own in rows[tick][panel]]
    return ticks[0] if ticks else None


def all_seen(house, times, deeds, many):
    """For each panel a tuple of the first ticks at which it sees the ZONES."""
    rows = rows_by_tick(house, deeds, many)
    return tuple([
        tuple([first_seen(house, times, rows, panel, zone) for zone in range(len(house[1]))])
        for panel in range(house[4])
    ])


def seen_tick(house, times, deeds, panel, number, many):
    """The tick at which this panel sees this ZONE; None without."""
    house, times, deeds = frozen(house), frozen(times), frozen(deeds)
    check_link_deeds(house, deeds)
    check_panel(house[4], panel)
    check_zone(house, number)
    return first_seen(house, times, rows_by_tick(house, deeds, many), panel, number)


def seen_rows(house, times, deeds, many):
    """For each panel the TIMES that it sees."""
    house, times, deeds = frozen(house), frozen(times), frozen(deeds)
    check_link_deeds(house, deeds)
    return all_seen(house, times, deeds, many)


def line_begin(line, sight):
    """The tick at which the LINE begins if its panel sees the ZONES at these ticks; None if it does not."""
    called = [sight[zone] for zone in line[2]]
    seen = [tick for tick in called if tick is not None]
    if line[1] == "all":
        return max(seen) if len(seen) == len(called) else None
    return min(seen, default=None)


def line_at_last(line, sight):
    """The triple (state, begin, end) of a LINE at last if its panel sees the ZONES at these ticks."""
    begin = line_begin(line, sight)
    if begin is None:
        return ("idle", None, None)
    end = begin + line[3]
    barred = [zone for zone in line[4] if sight[zone] is not None and sight[zone] <= end]
    return ("barred" if barred else "on", begin, end)


def line_row(line, sight, many):
    """The triple (state, begin, end) of a LINE behind so many ticks."""
    state, begin, end = line_at_last(line, sight)
    return ("waits" if end is not None and end >= many else state, begin, end)


def all_lines(house, times, deeds, many):
    """For each LINE its triple behind so many ticks."""
    sights = all_seen(house, times, deeds, many)
    return tuple([line_row(line, sights[line[0]], many) for line in house[2]])


def line_rows(house, times, deeds, many):
    """For each LINE the triple (state, begin, end) behind the last tick."""
    house, times, deeds = frozen(house), frozen(times), frozen(deeds)
    check_link_deeds(house, deeds)
    return all_lines(house, times, deeds, many)


def out_ticks(house, times, deeds, many):
    """For each OUT the first tick at which it is on; None without."""
    house = frozen(house)
    rows = line_rows(house, times, deeds, many)
    ends = [
        [end for (state, _, end), line in zip(rows, house[2]) if state == "on" and line[5] == out]
        for out in range(len(house[3]))
    ]
    return tuple([min(own, default=None) for own in ends])


def rings_alone(line, row, times):
    """Whether a LINE of this triple is on though one of its unless was knocked by its end."""
    state, _, end = row
    knocked = [zone for zone in line[4] if times[zone] is not None and state == "on" and times[zone] <= end]
    return knocked != []


def rung_alone(house, times, deeds, many):
    """The set of the numbers of the LINES that ring alone."""
    house, times = frozen(house), frozen(times)
    rows = line_rows(house, times, deeds, many)
    return tuple([number for number, line in enumerate(house[2]) if rings_alone(line, rows[number], times)])


def left_out(house, times, deeds, many):
    """The set of the numbers of the LINES that are left out: on only if nothing had been parted."""
    rows = line_rows(house, times, deeds, many)
    whole = line_rows(house, times, (), many)
    return tuple([
        number for number, own in enumerate(rows) if own[0] != "on" and whole[number][0] == "on"
    ])


def parts_that_ring(house, times, number, many):
    """The list, ascending, of the least sets of links that, parted from tick 0 on, let this LINE ring alone."""
    house, times = frozen(house), frozen(times)
    check_line(house, number)
    line = house[2][number]
    found = []
    for links in subsets(list(range(link_count(house[4])))):
        deeds = tuple([(0, ("part", link)) for link in links])
        if rings_alone(line, all_lines(house, times, deeds, many)[number], times):
            found.append(links)
    return least_sets(found)
