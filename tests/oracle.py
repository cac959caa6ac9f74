"""What is heard and what a play does, by the words of the document alone, step by step, for the tests."""

import itertools


def items_by_section(ring):
    """The sections of a RING, each the list of its GAPS and PIECES as they stand from A to B."""
    sections = [[]]
    for number, piece in enumerate(ring[1]):
        sections[-1].append(("gap", number))
        if piece == ("cut",):
            sections.append([])
        else:
            sections[-1].append(("piece", number))
    sections[-1].append(("gap", len(ring[1])))
    return sections


def walk(sections, faults, number):
    """The PIECES heard on a walk through these sections, in order."""
    there = {gap[1]: word for word, gap in faults if gap[0] == number}
    found = []
    for section in sections:
        hit = [own for own in section if own[0] == "gap" and own[1] in there]
        if not hit:
            found += [own[1] for own in section if own[0] == "piece"]
            continue
        if there[hit[0][1]] == "break":
            found += [own[1] for own in section[:section.index(hit[0])] if own[0] == "piece"]
        break
    return sorted(found)


def from_a(rings, faults, number):
    return walk(items_by_section(rings[number]), faults, number)


def from_b(rings, faults, number):
    return walk([own[::-1] for own in items_by_section(rings[number])[::-1]], faults, number)


def heard(rings, faults):
    return tuple(
        (number, at)
        for number in range(len(rings))
        for at in sorted(set(from_a(rings, faults, number)) | set(from_b(rings, faults, number)))
    )


def opened(rings, faults, number):
    """Cut-offs, A and B, that walks come to and behind which the first FAULT is a short."""
    there = {gap[1]: word for word, gap in faults if gap[0] == number}
    pieces = rings[number][1]
    cuts = [at for at, piece in enumerate(pieces) if piece == ("cut",)]
    sections = items_by_section(rings[number])
    found = set()
    for doors, rows in (([-1] + cuts, sections), ([len(pieces)] + cuts[::-1], [own[::-1] for own in sections[::-1]])):
        for door, section in zip(doors, rows):
            hit = [own[1] for own in section if own[0] == "gap" and own[1] in there]
            if hit:
                if there[hit[0]] == "short":
                    found.add(door)
                break
    return tuple(sorted(found))


def all_gaps(rings):
    return [(number, gap) for number, ring in enumerate(rings) for gap in range(len(ring[1]) + 1)]


def mishaps(rings):
    """All mishaps of RINGS."""
    ways = all_gaps(rings)
    for words in itertools.product((None, "break", "short"), repeat=len(ways)):
        yield tuple(sorted((word, gap) for word, gap in zip(words, ways) if word))


def lesser_sets(row):
    """All sets that lie in this one but for itself."""
    for many in range(len(row)):
        yield from itertools.combinations(row, many)


def small_rings(longest, panel=0):
    """All RINGS up to this length, with a place or OUT 0 for all."""
    for many in range(1, longest + 1):
        for pieces in itertools.product((("feel", 0), ("bell", 0), ("cut",)), repeat=many):
            yield (panel, pieces)


def all_begins(spots, ticks):
    """All BEGINS of these SPOTS at these ticks."""
    for told in itertools.product((None,) + tuple(ticks), repeat=len(spots)):
        yield tuple((spot, tick) for spot, tick in zip(spots, told) if tick is not None)


def together(panels, parted, one, other):
    """Whether links that are not parted lead from one panel to the other one."""
    found = {one}
    links = range(panels if panels > 1 else 0)
    for _ in range(panels):
        for link in links:
            ends = {link, (link + 1) % panels}
            if link not in parted and ends & found:
                found |= ends
    return other in found


class Course:
    """A PLAY going by, tick by tick, all that ever happened being kept."""

    def __init__(self, house):
        self.house = house
        self.faults, self.offs, self.parted, self.asked = set(), set(), set(), set()
        self.clear()

    def clear(self):
        _, zones, lines, outs, _ = self.house
        self.counts, self.seen, self.on = [], {}, {}
        self.lines = [["idle", None, None] for _ in lines]
        self.mute = False

    def panel(self, zone):
        rings, zones = self.house[:2]
        return rings[zones[zone][0][0][0]][0]

    def do(self, deed):
        """Does a DEED, if it can be done; tells whether it was."""
        word, named = deed[0], deed[1] if len(deed) == 2 else None
        held = {"off": self.offs, "on": self.offs, "part": self.parted, "join": self.parted}
        if word in ("off", "part"):
            if named in held[word]:
                return False
            held[word].add(named)
        elif word in ("on", "join"):
            if named not in held[word]:
                return False
            held[word].discard(named)
        elif word == "harm":
            if any(gap == named[1] for _, gap in self.faults):
                return False
            self.faults.add(named)
        elif word == "heal":
            if named not in self.faults:
                return False
            self.faults.discard(named)
        elif word == "more":
            if self.lines[named][0] != "waits" or named in self.asked:
                return False
            self.lines[named][2] += self.house[2][named][6]
            self.asked.add(named)
        elif word == "back":
            self.clear()
            self.asked = {number for number in self.asked if self.house[2][number][7] == 0}
        else:
            self.mute = word == "quiet"
        return True

    def go(self, deeds, spots, tick):
        """One tick; tells which DEEDS, by their place, were passed over, and who counted."""
        rings, zones, lines, outs, panels = self.house
        over = [place for place, deed in enumerate(deeds) if not self.do(deed)]
        there = heard(rings, self.faults)
        counted = [spot for spot in spots if spot in there and spot not in self.offs]
        self.counts += [(spot, tick) for spot in counted]
        fresh = []
        for number, (own, knocks, stay) in enumerate(zones):
            low = 0 if stay is None else tick - stay
            lasting = {spot for spot, when in self.counts if spot in own and low <= when <= tick}
            if (self.panel(number), number) not in self.seen and len(lasting) >= knocks:
                fresh.append(number)
        if fresh:
            self.mute = False
        for number in range(len(zones)):
            own = self.panel(number)
            if number in fresh or (own, number) in self.seen:
                for panel in range(panels):
                    if together(panels, self.parted, own, panel):
                        self.seen.setdefault((panel, number), tick)
        for number, (panel, when, called, wait, unless, out, _, _) in enumerate(lines):
            row = self.lines[number]
            met = [(panel, zone) in self.seen for zone in called]
            if row[0] == "idle" and (all(met) if when == "all" else any(met)):
                row[:] = ["waits", tick, tick + wait]
            if row[0] == "waits" and row[2] <= tick:
                if any((panel, zone) in self.seen for zone in unless):
                    row[0] = "barred"
                else:
                    row[0] = "on"
                    self.on.setdefault(out, tick)
        return over, tuple(counted)

    def stand(self):
        _, zones, _, outs, panels = self.house
        last = {}
        for spot, tick in self.counts:
            last[spot] = max(tick, last.get(spot, 0))
        return (
            tuple(sorted(self.faults)), tuple(sorted(self.offs)), tuple(sorted(self.parted)),
            tuple(sorted(last.items())),
            tuple(tuple(self.seen.get((panel, zone)) for zone in range(len(zones))) for panel in range(panels)),
            tuple(tuple(row) for row in self.lines), tuple(sorted(self.asked)),
            tuple(self.on.get(out) for out in range(len(outs))), self.mute,
        )

    def sounds(self):
        outs = self.house[3]
        return tuple(out for out in range(len(outs)) if out in self.on and not (self.mute and outs[out] == "bell"))

    def rings_now(self):
        rings = self.house[0]
        return tuple(
            (number, at)
            for number, at in heard(rings, self.faults)
            if rings[number][1][at][0] == "bell" and rings[number][1][at][1] in self.sounds()
        )


def speaks(speech, tick):
    return tuple(
        spot for spot, rows in speech if any(a <= tick and (b is None or tick < b) for a, b in rows)
    )


def course_of(play):
    """For each tick a dict of what is there behind it."""
    house, speech, deeds, many = play
    course, rows = Course(house), []
    for tick in range(many):
        places = [place for place, (when, _) in enumerate(deeds) if when == tick]
        over, counted = course.go([deeds[place][1] for place in places], speaks(speech, tick), tick)
        rows.append({
            "stand": course.stand(), "sounds": course.sounds(), "rings": course.rings_now(), "counted": counted,
            "over": [places[own] for own in over], "on": dict(course.on),
            "knocked": tuple(z for z in range(len(house[1])) if (course.panel(z), z) in course.seen),
        })
    return rows


def speech_of(begins):
    return tuple((spot, ((tick, None),)) for spot, tick in begins)


def first_on(house, begins, many, deeds=()):
    """For ZONES, LINES and OUTS the first ticks below many at which they are knocked, are on; None without."""
    rows = course_of((house, speech_of(begins), deeds, many))
    states = [
        {number for number, own in enumerate(row["stand"][5]) if own[0] == "on"} for row in rows
    ]
    found = []
    for held, count in (([row["knocked"] for row in rows], 1), (states, 2), ([row["on"] for row in rows], 3)):
        found.append(tuple(
            min((tick for tick, row in enumerate(held) if number in row), default=None)
            for number in range(len(house[count]))
        ))
    return tuple(found)


def later(tick):
    """A key: None, never, is later than all ticks."""
    return (tick is None, tick or 0)


def spots_of_feelers(house):
    return tuple(
        (number, at) for number, ring in enumerate(house[0]) for at, own in enumerate(ring[1]) if own[0] == "feel"
    )


def greatest_of(rows):
    return sorted(row for row in rows if not any(set(row) < set(other) for other in rows))


def least_of(rows):
    return sorted(row for row in rows if not any(set(other) < set(row) for other in rows))


def all_subsets(row):
    for many in range(len(row) + 1):
        yield from itertools.combinations(row, many)


def walks(ways, start, end, passed=()):
    """The ticks of all ways from start to end on which no place comes twice."""
    if start == end:
        yield 0
    for one, other, ticks in ways:
        if one == start and other not in passed and other != start:
            for more in walks(ways, other, end, passed + (start,)):
                yield ticks + more


def arrivals(places, ways, start):
    return tuple(min(walks(ways, start, place), default=None) for place in range(places))


def risen_ticks(house, begins):
    """As first_on, of a HOUSE that rises and to whose end it goes, by counting who has begun by each tick."""
    ticks = dict(begins)
    zones = []
    for spots, knocks, _ in house[1]:
        told = [tick for tick in sorted(ticks.values()) if sum(ticks.get(spot, tick + 1) <= tick for spot in spots) >= knocks]
        zones.append(told[0] if told else None)
    lines = []
    for _, when, called, wait, _, _, _, _ in house[2]:
        row = [zones[zone] for zone in called]
        begun = [tick for tick in row if tick is not None]
        if begun and (when == "any" or None not in row):
            lines.append((min if when == "any" else max)(begun) + wait)
        else:
            lines.append(None)
    outs = [
        min((tick for tick, line in zip(lines, house[2]) if line[5] == out and tick is not None), default=None)
        for out in range(len(house[3]))
    ]
    return tuple(zones), tuple(lines), tuple(outs)


def lines_by_times(house, times):
    """The pairs (state, end) of the LINES by TIMES, by the words of [14]."""
    rows = []
    for _, when, called, wait, unless, _, _, _ in house[2]:
        ticks = [times[zone] for zone in called]
        knocked = [tick for tick in ticks if tick is not None]
        if not knocked or (when == "all" and None in ticks):
            rows.append(("idle", None))
            continue
        end = (min if when == "any" else max)(knocked) + wait
        barred = any(times[zone] is not None and times[zone] <= end for zone in unless)
        rows.append(("barred" if barred else "on", end))
    return tuple(rows)


def outs_by_times(house, times):
    rows = lines_by_times(house, times)
    return tuple(
        min((end for (state, end), line in zip(rows, house[2]) if state == "on" and line[5] == out), default=None)
        for out in range(len(house[3]))
    )


def all_times(many, last):
    """All TIMES of so many ZONES to this tick, None behind the ticks."""
    return itertools.product(list(range(last + 1)) + [None], repeat=many)
