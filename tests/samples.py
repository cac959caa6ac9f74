"""Houses and plays for the tests: those of the document's examples, and many by a seed."""

hall = (0, (("feel", 0), ("cut",), ("feel", 1), ("feel", 2), ("bell", 0), ("cut",), ("feel", 0)))
short, crack = ("short", (0, 4)), ("break", (0, 3))
inn = (
    (hall,),
    ((((0, 0), (0, 2)), 1, None), (((0, 2), (0, 3), (0, 6)), 2, None)),
    ((0, "any", (0,), 3, (), 0, 4, 0), (0, "all", (0, 1), 2, (), 1, 0, 0)),
    ("bell", "door"),
    1,
)
barred = inn[:2] + (((0, "any", (0,), 3, (1,), 0, 4, 1), (0, "any", (1,), 1, (), 1, 0, 0)),) + inn[3:]
loft = (
    (hall, (1, (("feel", 3), ("bell", 0)))),
    ((((0, 0),), 1, None), (((1, 0),), 1, 2)),
    ((0, "all", (0, 1), 0, (), 0, 0, 0), (1, "any", (1,), 2, (0,), 1, 0, 0)),
    ("bell", "door"),
    2,
)
# Three panels, three RINGS (one of cut-offs alone), knocks of both kinds, stays 0, a number and None.
keep = (
    (
        (2, (("feel", 4), ("bell", 1), ("cut",), ("feel", 0))),
        (0, (("feel", 1), ("cut",), ("cut",), ("feel", 1), ("bell", 1))),
        (1, (("cut",),)),
        (1, (("feel", 2), ("feel", 2))),
    ),
    (
        (((0, 0), (0, 3)), 2, 3),
        (((1, 0), (1, 3)), 2, 0),
        (((3, 0), (3, 1)), 1, None),
    ),
    (
        (0, "any", (0, 2), 2, (1,), 1, 3, 0),
        (1, "all", (0, 2), 0, (), 0, 0, 1),
        (2, "any", (1,), 4, (2,), 1, 2, 1),
        (0, "all", (0, 1, 2), 1, (), 2, 0, 0),
    ),
    ("door", "bell", "door"),
    3,
)
bare = (((0, (("cut",),)),), (), (), (), 1)


def some_house(dice):
    """A HOUSE by this source of numbers, of every kind that the document lets."""
    panels = dice.randint(1, 3)
    outs = tuple(dice.choice(("bell", "door")) for _ in range(dice.randint(1, 3)))
    loud = [number for number, own in enumerate(outs) if own == "bell"]
    rings = []
    for _ in range(dice.randint(1, 3)):
        kinds = [("feel", dice.randint(0, 3)) for _ in range(4)] + [("cut",)] + [("bell", own) for own in loud]
        rings.append((dice.randrange(panels), tuple(dice.choice(kinds) for _ in range(dice.randint(1, 6)))))
    rings = tuple(rings)
    spots = [(n, at) for n, ring in enumerate(rings) for at, own in enumerate(ring[1]) if own[0] == "feel"]
    zones = []
    for _ in range(dice.randint(0, 3)):
        panel = dice.randrange(panels)
        mine = [spot for spot in spots if rings[spot[0]][0] == panel]
        if mine:
            own = tuple(sorted(dice.sample(mine, dice.randint(1, min(3, len(mine))))))
            zones.append((own, dice.randint(1, min(2, len(own))), dice.choice((None, None, 0, 1, 3))))
    lines = []
    for _ in range(dice.randint(0, 4) if zones else 0):
        some = tuple(sorted(dice.sample(range(len(zones)), dice.randint(1, len(zones)))))
        bars = tuple(sorted(dice.sample(range(len(zones)), dice.choice((0, 0, 1, len(zones))))))
        lines.append((
            dice.randrange(panels), dice.choice(("any", "all")), some, dice.randint(0, 4), bars,
            dice.randrange(len(outs)), dice.randint(0, 3), dice.randint(0, 1),
        ))
    return (rings, tuple(zones), tuple(lines), outs, panels)


def some_deed(dice, house):
    """A DEED of this HOUSE, or None if there is none of the word that came."""
    rings, _, lines, _, panels = house
    spots = [(n, at) for n, ring in enumerate(rings) for at, own in enumerate(ring[1]) if own[0] == "feel"]
    ways = [(n, at) for n, ring in enumerate(rings) for at in range(len(ring[1]) + 1)]
    word = dice.choice((
        "off", "on", "quiet", "sound", "back", "more", "more", "harm", "harm", "heal", "heal", "part", "join",
    ))
    if word in ("quiet", "sound", "back"):
        return (word,)
    if word in ("harm", "heal"):
        return (word, (dice.choice(("break", "short")), dice.choice(ways[:4])))
    named = spots if word in ("off", "on") else range(len(lines)) if word == "more" else range(panels)
    if word in ("part", "join") and panels == 1 or not named:
        return None
    return (word, dice.choice(named))


def some_speech(dice, house, longest):
    rings = house[0]
    spots = [(n, at) for n, ring in enumerate(rings) for at, own in enumerate(ring[1]) if own[0] == "feel"]
    told = []
    for spot in spots:
        marks = sorted(dice.sample(range(longest), dice.choice((0, 1, 2, 2, 3, 4))))
        rows = [(a, b) for a, b in zip(marks[::2], (marks + [None])[1::2])]
        if rows:
            told.append((spot, tuple(rows)))
    return tuple(told)


def some_play(dice, longest=18, many_deeds=8):
    """A PLAY by this source of numbers."""
    house = some_house(dice)
    deeds = [some_deed(dice, house) for _ in range(dice.randint(0, many_deeds))]
    deeds = [own for own in deeds if own is not None]
    ticks = sorted(dice.randrange(longest) for _ in deeds)
    return (house, some_speech(dice, house, longest), tuple(zip(ticks, deeds)), dice.randint(0, longest))


# A HOUSE that rises, of two panels: an OUT without LINES, a place with two feelers, a ZONE that asks two.
tower = (
    (
        (0, (("feel", 0), ("cut",), ("feel", 2), ("bell", 0))),
        (1, (("feel", 1), ("feel", 1), ("feel", 7))),
    ),
    ((((0, 0), (0, 2)), 1, None), (((1, 0), (1, 1), (1, 2)), 2, None), (((0, 2),), 1, None)),
    (
        (0, "any", (0, 1), 2, (), 0, 3, 0), (1, "all", (0, 1), 1, (), 2, 0, 0), (1, "any", (2,), 4, (), 0, 0, 1),
        (0, "all", (0, 2), 3, (), 2, 0, 0),
    ),
    ("bell", "door", "door"),
    2,
)
# Eight feelers, ZONES of all of them that ask two: FORMS of 28 ROWS, too many together.
eight = tuple((0, at) for at in range(8))
crowd = (
    ((0, tuple(("feel", at % 6) for at in range(8))),),
    ((eight, 2, None), (eight, 2, None), (eight[:3], 1, None)),
    ((0, "all", (0, 1), 1, (), 0, 0, 0), (0, "any", (0, 1, 2), 2, (), 1, 0, 0)),
    ("bell", "bell", "door"),
    1,
)


def risen(house):
    """The HOUSE with stay None in all ZONES and no unless."""
    zones = tuple((spots, knocks, None) for spots, knocks, _ in house[1])
    lines = tuple(line[:4] + ((),) + line[5:] for line in house[2])
    return (house[0], zones, lines) + house[3:]


def some_begins(dice, spots, longest):
    """BEGINS of some of these SPOTS by this source of numbers."""
    return tuple((spot, dice.randrange(longest)) for spot in spots if dice.randint(0, 3))


def bare_house(zones, lines, outs):
    """A HOUSE of one panel in which each ZONE is one feeler."""
    ring = (0, tuple(("feel", at) for at in range(max(1, zones))))
    return ((ring,), tuple((((0, at),), 1, None) for at in range(zones)), tuple(lines), outs, 1)


def some_lines(dice, zones, most, longest, outs):
    """LINES of so many ZONES by this source of numbers."""
    found = []
    for _ in range(dice.randint(0, most)):
        called = tuple(sorted(dice.sample(range(zones), dice.randint(1, zones))))
        bars = tuple(sorted(dice.sample(range(zones), dice.choice((0, 0, 1, 1, zones)))))
        found.append((0, dice.choice(("any", "all")), called, dice.randint(0, longest), bars, dice.randrange(outs), 0, 0))
    return found
