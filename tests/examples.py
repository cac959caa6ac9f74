"""Each example of the document, as it stands there, point by point and in its order."""

EXAMPLES = (
    (4, r"""
>>> hall = (0, (("feel", 0), ("cut",), ("feel", 1), ("feel", 2), ("bell", 0), ("cut",), ("feel", 0)))
>>> sections_of(hall), section_of((hall,), (0, 1)), section_of((hall,), (0, 7)), sections_of((0, (("cut",),)))
([(0,), (2, 3, 4), (6,)], 0, 2, [(), ()])
>>> short, crack = ("short", (0, 4)), ("break", (0, 3))
>>> heard((hall,), ()), lost((hall,), (short,)), lost((hall,), (crack, short)), lost((hall,), (crack,))
(((0, 0), (0, 2), (0, 3), (0, 4), (0, 6)), ((0, 2), (0, 3), (0, 4)), ((0, 3), (0, 4)), ())
>>> first_from_a((hall,), (crack, short), 0), first_from_b((hall,), (crack, short), 0), heard_by(hall, crack, short)
(('break', (0, 3)), ('short', (0, 4)), (0, 2, 6))
>>> opened((hall,), (short,), 0), opened((hall,), (crack, short), 0), opened((hall,), (("short", (0, 0)),), 0)
((1, 5), (5,), (-1, 1))
>>> heard_from_a((hall,), (("break", (0, 5)),), 0), heard_from_b((hall,), (("break", (0, 5)),), 0)
((0, 2, 3, 4), (6,))
>>> are_faults((hall,), (crack, short)), are_faults((hall,), (("break", (0, 4)), short)), are_faults((hall,), (short, crack))
(True, False, False)
>>> is_heard((hall,), (), (0, 7))
raises NoSpot(spot=(0, 7))
"""),
    (5, r"""
>>> mishaps_between(hall, ("break", (0, 0)), short), mishaps_between(hall, short, crack), mishaps_alike((hall,), (crack, short))
(27, 0, 16)
>>> len(heard_counts(hall)), heard_counts(hall)[0], ((0, 2, 6), 16) in heard_counts(hall)
(16, ((), 3969), True)
>>> plain_faults((hall,), (crack, ("break", (0, 4)), ("short", (0, 5)))), mishap_for((hall,), 0, (2, 3)), mishap_for((hall,), 0, (0, 2, 3, 4, 6))
((('break', (0, 3)), ('break', (0, 5))), None, ())
>>> brought_back((hall,), (short,), crack), bringers((hall,), (short,)), taken_away((hall,), (crack,), short)
(((0, 2),), (('break', (0, 3)),), ((0, 3), (0, 4)))
>>> three = ((0, 2), (0, 3), (0, 6))
>>> [least_heard((hall,), three, many) for many in (0, 1, 2)], is_worst_mishap((hall,), three, 1, (short,)), [most_heard((hall,), three, many) for many in (1, 7, 8, 9)]
([3, 1, 0], True, [3, 1, 0, None])
>>> deaf_count((hall,), three, 2), least_deaf((hall,), three, 2)[:2], deaf_count((hall,), ((0, 0),), 1)
(37, [(('break', (0, 0)), ('break', (0, 4))), (('break', (0, 0)), ('break', (0, 5)))], 15)
>>> brought_back((hall,), (short,), ("break", (0, 4)))
raises Unfit()
"""),
    (6, r"""
>>> inn = ((hall,), ((((0, 0), (0, 2)), 1, None), (((0, 2), (0, 3), (0, 6)), 2, None)), ((0, "any", (0,), 3, (), 0, 4, 0), (0, "all", (0, 1), 2, (), 1, 0, 0)), ("bell", "door"), 1)
>>> barred = inn[:2] + (((0, "any", (0,), 3, (1,), 0, 4, 1), (0, "any", (1,), 1, (), 1, 0, 0)),) + inn[3:]
>>> loft = ((hall, (1, (("feel", 3), ("bell", 0)))), ((((0, 0),), 1, None), (((1, 0),), 1, 2)), ((0, "all", (0, 1), 0, (), 0, 0, 0), (1, "any", (1,), 2, (0,), 1, 0, 0)), ("bell", "door"), 2)
>>> feelers(inn), bells(inn), cuts(inn), gaps(loft)[7:]
(((0, 0), (0, 2), (0, 3), (0, 6)), ((0, 4),), ((0, 1), (0, 5)), ((0, 7), (1, 0), (1, 1), (1, 2)))
>>> zones_at(inn, (0, 2)), panel_of(loft, 1), on_panel(loft, 1), piece_at(loft, (1, 0))
((0, 1), 1, ((1,), (1,), (1,)), ('feel', 3))
>>> callers(barred, 0), barrers(barred, 0), lines_to(inn, 1), [rises(own) for own in (inn, barred, loft)], one_mind(loft)
((0,), (1,), (1,), [True, False, False], True)
>>> anew(barred, (0,), (1, 0), (1, 0), (0, 1))[2]
((0, 'any', (0,), 1, (), 1, 0, 0), (0, 'any', (1,), 3, (0,), 0, 4, 1))
>>> turned_house(inn, 0)[1][0][0], turned_house(turned_house(inn, 0), 0) == inn, spot_anew(loft, (1, 0), (1, 0))
(((0, 4), (0, 6)), True, (0, 0))
>>> speech, steps = (((0, 2), ((1, 4), (6, None))),), ((0, ("off", (0, 3))), (2, ("harm", ("break", (0, 2)))), (2, ("more", 0)))
>>> is_speech(inn, speech), is_play((inn, speech, steps, 9)), is_deed(inn, ("part", 0)), is_deed(loft, ("part", 1))
(True, True, False, True)
>>> turned_play((inn, speech, steps, 9), 0)[1:3]
((((0, 4), ((1, 4), (6, None))),), ((0, ('off', (0, 3))), (2, ('harm', ('break', (0, 5)))), (2, ('more', 0))))
>>> is_house(inn), is_house(inn[:4] + (4,)), is_house((inn[0], ((((0, 1),), 1, None),), (), (), 1))
(True, False, False)
>>> zones_at(inn, (0, 4))
raises NoSpot(spot=(0, 4))
>>> anew(inn, (0,), (0, 0), (0, 1), (0, 1))
raises Unfit()
"""),
    (7, r"""
>>> told = (((0, 0), ((5, None),)), ((0, 2), ((1, None),)), ((0, 6), ((2, None),)))
>>> speaking(told, 2), can_do(inn, fresh_stand(inn), ("on", (0, 2))), patience(inn), patience(loft)
(((0, 2), (0, 6)), False, 7, 2)
>>> first = after_tick(inn, fresh_stand(inn), (), ((0, 2),), 1)
>>> first[3:6] == ((((0, 2), 1),), ((1, None),), (("waits", 1, 4), ("idle", None, None))), knocked(inn, first)
(True, (0,))
>>> asked = after_deed(inn, first, ("more", 0))
>>> asked[5][0], can_do(inn, asked, ("more", 0)), after_deed(inn, asked, ("back",)) == fresh_stand(inn)[:6] + ((0,), (None, None), False)
(('waits', 1, 8), False, True)
>>> dark = after_deed(inn, fresh_stand(inn), ("harm", ("short", (0, 4))))
>>> after_tick(inn, dark, (), ((0, 2), (0, 6)), 0)[3], can_do(inn, dark, ("harm", ("break", (0, 4))))
((((0, 6), 0),), False)
>>> late = after_tick(inn, first, (("quiet",),), ((0, 2),), 4)
>>> loud = after_deed(inn, late, ("sound",))
>>> late[7], sounding(inn, late), sounding(inn, loud), ringing(inn, loud), aged(inn, late, 4)[3:6]
((4, None), (), (0,), ((0, 4),), ((((0, 2), 0),), ((True, False),), (('on', 0), ('idle', 0))))
>>> can_do(inn, first, ("more", 2))
raises NoLine(number=2)
"""),
    (8, r"""
>>> run, fire = (inn, told, (), 8), (((0, 0), ((0, None),)), ((1, 0), ((0, None),)))
>>> knock_ticks(run), on_ticks(run), sounded(run, 4), rung(run, 4), turns(run), on_ticks((inn, told, ((4, ("back",)),), 8))
((1, 2), (4, 4), (0, 1), ((0, 4),), (0, 1, 2, 5), (7, 6))
>>> on_ticks((loft, fire, (), 4)), on_ticks((loft, fire, ((0, ("part", 0)), (0, ("part", 1))), 4))
((0, None), (None, 2))
>>> plain_play((inn, told, ((1, ("off", (0, 2))), (3, ("on", (0, 2)))), 8))[1] == told[:1] + (((0, 2), ((3, None),)),) + told[2:]
True
>>> cut_pauses((loft, fire[:1] + (((1, 0), ((9, 12),)),), (), 20)) == (loft, fire[:1] + (((1, 0), ((3, 6),)),), (), 9)
True
>>> ends_of(loft, (("speak", (1, 0)), ("speak", (0, 0))))
[((0,), (0, 0)), ((0, 1), (0, 3))]
>>> passed_over((inn, told, ((0, ("on", (0, 2))),), 8)), drawn_out((loft, fire, ((5, ("back",)),), 6), 5, 2)[2:]
((0,), (((7, ('back',)),), 8))
"""),
    (9, r"""
>>> any_of, two_of = knock_form(((0, 0), (0, 2)), 1), knock_form(((0, 2), (0, 3), (0, 6)), 2)
>>> any_of, len(two_of), knock_form(((0, 0),), 2)
(((((0, 0), 0),), (((0, 2), 0),)), 3, ())
>>> fire = (((0, 0), 5), ((0, 2), 1), ((0, 6), 2))
>>> form_at(any_of, fire), form_at(two_of, fire), form_at(after(two_of, 3), fire[:2]), rows_at(two_of, fire)
(1, 2, None, ((((0, 2), 0), ((0, 6), 0)),))
>>> late = both(any_of, two_of)
>>> late == ((((0, 0), 0), ((0, 3), 0), ((0, 6), 0)), (((0, 2), 0), ((0, 3), 0)), (((0, 2), 0), ((0, 6), 0)))
True
>>> never_above(any_of, late), never_above(late, two_of), late_by(after(any_of, 4), late), late_by(late, two_of), late_by(late, any_of)
(True, False, 4, None, None)
>>> lies_over((((0, 2), 3), ((0, 3), 0)), (((0, 2), 2),)), without(late, ((0, 3),)), row_begins((((0, 2), 3), ((0, 3), 0)))
(True, ((((0, 2), 0), ((0, 6), 0)),), (((0, 2), 0), ((0, 3), 3)))
>>> is_parting(late, two_of, (((0, 3), 4), ((0, 6), 4))), is_parting(late, two_of, fire), is_form(())
(True, False, True)
>>> parting_begins(any_of, late)
raises CanNot()
"""),
    (10, r"""
>>> out_form(inn, 0, ()), len(zone_form(inn, 1, ())), out_form(inn, 1, ((0, 2),))
(((((0, 0), 3),), (((0, 2), 3),)), 3, ((((0, 0), 2), ((0, 3), 2), ((0, 6), 2)),))
>>> first_ticks(inn, fire, ()), first_ticks(inn, begins_from(fire, 4), ()), first_ticks(inn, fire, ((0, 0), (0, 2)))
((4, 4), (7, 6), (None, None))
>>> hangs_on(inn, 0, (0, 3)), hangs_on(inn, 1, (0, 2)), later_without(inn, 1, ((0, 0),)), later_without(inn, 0, ((0, 0),))
('never', 'some', None, None)
>>> on_within(inn, 0, 0, 3), on_within(inn, 1, 1, 9), least_shorter(inn, 0, 0, 0, 1), needless_lines(inn), deaf_pairs(inn, 0, 0)[:2]
(True, False, 2, (), (((0, 0), (0, 2)), ((0, 0), (0, 3))))
>>> parting_out(inn, inn)
raises CanNot()
"""),
    (11, r"""
>>> ways = ((0, 1, 4), (1, 2, 2), (2, 0, 7))
>>> blaze = (3, ways, 0, 0)
>>> arrivals(blaze), fire_begins(inn, blaze), on_by_fire(inn, blaze, 0), on_by_fire(inn, blaze, 1)
((0, 4, 6), (((0, 0), 0), ((0, 2), 4), ((0, 3), 6), ((0, 6), 0)), 3, 6)
>>> arrivals((3, ((0, 1, 4),), 1, 2)), is_fire((3, ways, 3, 0)), is_fire((3, ((0, 0, 1),), 0, 0))
((None, 2, None), False, False)
>>> latest_starts(inn, 3, ways, 0), latest_starts(inn, 3, ways, 1), starts_within(inn, 3, ways, 0, 3)
((10, (2,)), (9, (2,)), (0, 1))
>>> quick, slow = (3, ways, 2, 0), (3, ((0, 1, 6), (1, 2, 3), (2, 0, 9)), 2, 1)
>>> no_faster(quick, slow), span_by_fires(inn, quick, slow, 0), is_between(quick, slow, fire_for(inn, quick, slow, 0, 12))
(True, (10, 13), True)
>>> with_feeler(inn, 0, 2, 0)[1][0], fewest_more(inn, 3, ways, 0, 3, 0, 0), fewest_more(inn, 3, ways, 0, 2, 0, 0)
((((0, 0), (0, 2), (0, 7)), 1, None), (2,), None)
>>> fire_for(inn, quick, slow, 0, 9)
raises CanNot()
>>> on_by_fire(barred, blaze, 0)
raises Unfit()
"""),
    (12, r"""
>>> ward = (3, ((0, 1, 2, 4), (0, 2, 4, 9), (1, 2, 1, 3)))
>>> arrivals_by(ward, 0, (3, 7, 2)), roads(ward, 0, 2), roads(ward, 0, 0), first_and_last(ward, 0, 2)
((0, 3, 5), [(0, 2), (1,)], [()], (3, 7))
>>> most_late(ward, 0, 1, 2), worst_road(ward, 0, 1, 2), worst_spreads(ward, 0, 1, 2), lateness(ward, 0, 2, 1)
(0, (1,), (4, 4, 3), (0, 3))
>>> is_worst(ward, 0, 1, 2, (4, 4, 1)), is_worst(ward, 0, 1, 2, (2, 4, 3)), arrivals_by(ward, 1, (3, 7, 2)), most_late(ward, 1, 0, 2)
(True, False, (None, 0, 2), None)
>>> never_barred(ward, 0, 1, 0, 2), always_barred(ward, 0, 1, 3, 2), always_barred(ward, 0, 1, 2, 2)
(False, True, False)
>>> vault = (5, ((0, 2, 4, 4), (0, 3, 6, 6), (0, 4, 1, 10), (4, 1, 1, 1), (4, 3, 1, 1)))
>>> late_behind(vault, 0, 3, (1, 2)), second_arrival(vault, 0, (4, 6, 1, 1, 1), (1, 2)), second_late(ward, 0, (1, 2), 1)
(0, 4, 3)
>>> most_late(ward, 0, 3, 5)
raises NoPlace(number=3)
"""),
    (13, r"""
>>> duo, murmur = (((0, 2), (0, 3), (0, 6)), 2, 2), (((0, 2), ((1, 3), (9, 10))), ((0, 3), ((4, 5),)), ((0, 6), ((10, 12),)))
>>> [knocked_at(duo[:2] + (stay,), murmur) for stay in (2, 1, 0)], knocked_anew(duo, murmur, (5,)), least_stay(duo, (murmur,))
([4, 10, None], (4, 10), 1)
>>> room(duo, murmur, (0, 2), 0), helps(duo, murmur, (0, 6), 9), echo_behind(duo, murmur, 2), rest_apart(duo, (2, 0, 0), (1, 0, 0))
((2, 3), (0, 1, 2, 3), (2, 0, 0), ((), (1,)))
>>> [never_behind(own, duo) for own in (duo[:2] + (None,), duo[:2] + (1,), (duo[0][:2], 1, 0))], silent_talks(duo, 2), silent_talk(duo, 2, 5)
([True, False, True], 10, ((0,), (0,)))
>>> knocks_by_lots(inn, 1, (((0, 2), 1), ((0, 3), 2), ((0, 6), 3)), 1)
[(2, 13), (None, 4)]
>>> room(duo, murmur, (0, 4), 0)
raises NoSpot(spot=(0, 4))
"""),
    (14, r"""
>>> lines_by(barred, (1, 4)), outs_by(barred, (1, 5)), holds(inn, ("within", 0, 0, 3)), lead_of(inn, 0, 1), least_wait(inn, ("ahead", 0, 1, 0), 1)
((('barred', 4), ('on', 5)), (4, 6), True, -1, 3)
>>> twin, far = ("apart", 0, 1), ("ahead", 0, 1, 2)
>>> ways_to_break(barred, twin), comparisons(barred, twin, ((0, 1), ((0, None), (1, None)), (0, 1))), breaking_times(barred, twin)
([((0, 1), ((0, None), (1, None)), (0, 1))], ((0, 1, -4),), (0, 4))
>>> is_loop(barred, far, ways_to_break(barred, far)[0], ((0, 1, -4), (1, 0, 3))), breaking_times(barred, far)
(True, (0, 0))
"""),
    (15, r"""
>>> silent_gaps(barred, 0, 0, 1), silent_gaps(barred, 1, 0, 1)
([(None, 3)], [])
>>> answers(barred)[0], [own[0] for own in answers(barred)][1:], later_if_earlier(barred, 0), later_if_earlier(barred, 1)
((('barred', 'on'), (0, 0)), [('idle', 'idle'), ('idle', 'on'), ('on', 'idle'), ('on', 'on')], ((0, 4), (0, 3)), None)
>>> low, high = (0, 2), (1, 5)
>>> late_corner(barred, low, high, 0), latest_on(barred, low, high, 0), early_corner(barred, low, high, 0), earliest_on(barred, low, high, 0)
((1, 2), None, (0, 5), 3)
>>> ticks_had(barred, low, high, 0), may_be_silent(barred, low, high, 0), two_minded(barred), is_later_pair(barred, 0, ((1, 9), (0, 2)))
((3, 4), True, (), True)
>>> begun = (((0, 0), 0), ((0, 2), 2))
>>> knocked_by(barred, begun), dirty_rows(barred, begun, 0), dirty_rows(barred, begun, 1)[2]
((0, None), (((0, 0), 3), ((0, 2), 3), ((0, 3), None), ((0, 6), None)), ((0, 3), 3))
>>> torn = inn[:2] + (((0, "any", (0, 1), 2, (1,), 0, 0, 0),),) + inn[3:]
>>> two_minded(torn)
((0, 1),)
>>> latest_on(torn, low, high, 0)
raises Unfit()
"""),
    (16, r"""
>>> on = (((0, 0), ((5, None),)), ((0, 2), ((1, None),)), ((0, 6), ((2, None),)))
>>> calm, twice = (inn, on, (), 10), (inn, on, ((3, ("quiet",)), (6, ("back",))), 10)
>>> new_knocks(calm), mute_spans(twice), on_spans(twice, 0), comes_on(twice, 1), fields(twice)
([(1, (0,)), (2, (1,))], [(3, 6)], [(4, 6), (9, 10)], [4, 8], [(0, 6), (6, 10)])
>>> must_sound(calm, 0), quiet_ticks(calm, 0), holders(calm, 1, 4), field_play(twice, 1)[1][0], field_play(twice, 1)[2:]
((), (4,), (1,), ((0, 0), ((6, None),)), ((), 10))
>>> early = (((0, 0), 5), ((0, 2), 1), ((0, 6), 2))
>>> [latest_first(inn, early, 0, *own) for own in ((0, 0), (2, 0), (1, 1), (1, 3))], out_latest(inn, early, 0, 2), out_backs(inn, early, 0, 2)
([4, 10, 11, 11], 10, (4, 7))
>>> are_late_deeds(inn, early, 0, 1, 1, ((4, ("more", 0)), (8, ("back",))))
True
>>> quiet_ticks((loft, (((0, 0), ((0, None),)), ((1, 0), ((3, None),))), (), 9), 0)
raises CanNot()
"""),
    (17, r"""
>>> crack, quick = ("break", (0, 3)), ((0, 1, 2), (1, 0, 2), (1, 2, 3), (2, 1, 3))
>>> dumb_by(inn, 1, ((crack, ("short", (0, 4))), ())), len(least_lots(inn, 1))
(False, 66)
>>> lot_counts(inn, 1), is_least_lot(inn, 0, ((("short", (0, 0)),), ((0, 2),)))
(((0, 2, 3), (1, 0, 4), (1, 1, 4), (2, 0, 33), (2, 1, 22)), True)
>>> one_more(inn, 1, ((0, 2),))[4:], len(bell_lots(inn, 0))
((('short', (0, 6)), ('short', (0, 7))), 39)
>>> lobby = (inn[0], ((((0, 0), (0, 2), (0, 6)), 1, None),), ((0, "any", (0,), 0, (), 0, 0, 0),), ("bell",), 1)
>>> spare_offs(inn), spare_offs(lobby), unfelt_offs(lobby, 3, quick), is_unfelt(inn, 3, quick, ((0, 3),))
([], [((0, 0),), ((0, 2),), ((0, 6),)], [((0, 0),), ((0, 6),)], False)
>>> late = (((0, 0), 5), ((0, 2), 1), ((0, 6), 2))
>>> counts_at(inn, late, ((0, ("harm", ("short", (0, 4)))), (2, ("harm", crack)))), late_pairs(inn, 0, late, 8)[:2]
((((0, 0), 5), ((0, 2), 2), ((0, 6), 2)), ((('short', (0, 0)), (0, 2)), (('short', (0, 1)), (0, 2))))
"""),
    (18, r"""
>>> heal_takes((hall,), (crack, short), crack), heal_takes((hall,), (crack, short), short), heal_gives((hall,), (crack, short), short), safe_heals((hall,), (crack, short))
(((0, 2),), (), ((0, 3), (0, 4)), (('short', (0, 4)),))
>>> safe_orders((hall,), (crack, short)) == [(short, crack)], order_harm((hall,), (crack, short), (crack, short)), any_order((hall,), (short,))
(True, (0, ((0, 2),)), True)
>>> middle, end = ("break", (0, 4)), ("short", (0, 5))
>>> count_orders((hall,), (crack, middle, end)), least_order((hall,), (crack, middle, end)) == (crack, end, middle)
(4, True)
>>> is_safe_order((hall,), (crack, middle, end), (middle, crack, end)), heard_along((hall,), (crack, short), (short, crack))[1] == heard((hall,), ())
(False, True)
>>> fewest_heals((hall,), (crack, short), ((0, 3),)), soonest((hall,), (crack, middle, end), ((0, 3),)) == (1, (crack, end, middle))
([(('short', (0, 4)),)], True)
>>> zone_orders(inn, (crack, short)) == [(short, crack)], zone_orders(inn, (crack,)) == [(crack,)]
(True, True)
>>> fewest_heals((hall,), (crack,), ((0, 1),))
raises CanNot()
>>> heal_takes((hall,), (crack,), short)
raises Unfit()
"""),
    (19, r"""
>>> bare_gaps(inn, 0), cut_house(inn, 0, (3,))[0][0][1], cut_house(inn, 0, ())[1][1]
((1, 4), (('feel', 0), ('feel', 1), ('feel', 2), ('cut',), ('bell', 0), ('feel', 0)), (((0, 1), (0, 2), (0, 4)), 2, None))
>>> may_go(inn, ((0, 0), (0, 3)), (1, 2)), may_go(inn, ((0, 2), (0, 3)), (1, 2)), kept_by(inn, 0, (1, 4)), kept_by(inn, 0, ())
(True, False, (1, 1), (0, 0))
>>> fewest_cuts(inn, 0, (1, 2)), is_cut_paper(inn, 0, (1, 2), ((0, 2), (1, 3), (2, 5))), count_cuts(inn, 0, (1, 2)), cheapest_cuts(inn, 0, (1, 2), (0, 5, 5, 1, 3, 0))
((1, 2, 4), True, 2, (11, (1, 2, 3)))
>>> starts = ((((0, 0), 5), ((0, 2), 1), ((0, 3), 4), ((0, 6), 2)),)
>>> cuts_in_time(inn, 0, starts, 1, 7), new_gaps(inn, 0, 1, (1, 2)), with_new(inn, (0, 7), 5, 1)[1][1][0]
((1, 2, 4), (0, 1, 6, 7), ((0, 2), (0, 3), (0, 6), (0, 7)))
>>> cuts_in_time(inn, 0, starts, 1, 6)
raises CanNot()
"""),
    (20, r"""
>>> at_works(inn, (0,)), noise(inn, (0, 1, 2), ()), is_still(inn, (1, 2), ((0, 2),))
(((0, 0), (0, 6)), [(0, ((0, 0),)), (1, ((0, 2), (0, 3)))], True)
>>> fewest_offs(inn, (0,)), fewest_offs(inn, (0, 1, 2))
([((0, 0),)], [((0, 0), (0, 2), (0, 3)), ((0, 0), (0, 2), (0, 6))])
>>> offs = ((0, 0), (0, 2), (0, 3))
>>> dumb_zones(inn, offs), told_back(inn, (0, 1, 2), offs, (1, 0, 2)), dumb_behind(inn, (0, 1, 2), offs, (0, 1, 2)), best_ends(inn, (0, 1, 2), offs)
((0, 1), (((0, 2),), ((0, 0),), ((0, 3),)), (1, 0, 0), (0, (1, 0, 2)))
>>> row = (0, (("feel", 0), ("feel", 1), ("feel", 2), ("feel", 3), ("feel", 4)))
>>> wing = ((row,), ((((0, 0), (0, 1), (0, 2)), 2, None), (((0, 3), (0, 4)), 2, None)), ((0, "any", (0, 1), 0, (), 0, 0, 0),), ("bell",), 1)
>>> five = ((0, 0), (0, 1), (0, 2), (0, 3), (0, 4))
>>> fewest_days(wing, five, 2), fewest_days(wing, five, 1), is_round(wing, five, 2, (((0, 0), (0, 3)), ((0, 1), (0, 4)), ((0, 2),)))
(3, 5, True)
>>> fewest_days(inn, ((0, 0),), 1)
raises CanNot()
"""),
    (21, r"""
>>> island_of(3, (0,), 0), islands(3, (0, 2)), islands(2, (0,)), alike_parted(3, (0, 1), (1, 2)), alike_parted(3, (0,), ())
((0, 1, 2), [(0,), (1, 2)], [(0, 1)], False, True)
>>> cut = ((0, ("part", 0)), (0, ("part", 1)), (6, ("join", 1)))
>>> house = loft[:1] + ((loft[1][0], (((1, 0),), 1, None)),) + loft[2:]
>>> parted_at(house, cut, 0), parted_at(house, cut, 6), joined_stretches(house, cut, 0, 1, 9)
((0, 1), (0,), ((6, 9),))
>>> seen_rows(house, (2, 3), cut, 9), out_ticks(house, (2, 3), cut, 9), out_ticks(house, (2, 3), (), 9)
(((2, 6), (6, 3)), (6, 5), (3, None))
>>> rung_alone(house, (2, 3), cut, 9), left_out(house, (2, 3), cut[:2], 9), parts_that_ring(house, (2, 3), 1, 9)
((1,), (0,), [(0, 1)])
>>> line_rows(house, (2, 3), cut, 9)
(('on', 6, 6), ('on', 3, 5))
>>> seen_tick(house, (2, 3), cut, 2, 0, 9)
raises NoPanel(number=2)
"""),
    (22, r"""
>>> ways = ((0, 1, 2), (1, 2, 3), (2, 0, 4))
>>> [marks_of(inn, 3, ways, (place, ())) for place in (0, 1, 2)]
[(0, 2, 3, 4), (0, 3, 3, 5), (4, 4, 7, 6)]
>>> log, none = (10, 13, 13, 15), ((),)
>>> fitting(inn, 3, ways, none, log, 0, 20), fitting(inn, 3, ways, none, log, 1, 20)
([((1, ()), (10, 10))], [((0, ()), (10, 10)), ((1, ()), (9, 10))])
>>> sure_burnt(inn, 3, ways, none, log, 1, 20), speaks_from(inn, 3, ways, none, log, 1, 20, (0, 2)), best_look(inn, 3, ways, none, log, 1, 20)
((0, 1, 2), (9, 12), ((0, 0), 1))
>>> bar_of(inn, 3, ways, (2, ()), log, 1, 20), barring_lots(inn, 3, ways, none, (10, 13, 14, 16), 0, 20)
((0, 1), [(0, 2), (0, 3), (1, 3)])
>>> hours_that_fit(inn, 3, ways, (2, ()), (None, None, "lost", None), 0, 9)
(6, None)
>>> len(knock_orders(inn)), order_of(inn, order_begins(inn, (1, 0)))
(6, (1, 0))
"""),
    (23, r"""
>>> talk, tools = (((0, 2), ((1, 4),)),), (("back",), ("off", (0, 2)), ("quiet",))
>>> hush, calm = ("silent", 0), ("still",)
>>> [fewest_hands(inn, talk, tools, 6, wish, 2) for wish in (hush, ("sounds", 0), calm, ("seen", 1))]
[((0, ('off', (0, 2))),), (), ((0, ('off', (0, 2))),), None]
>>> fewest_hands(inn, talk, tools[2:], 6, hush, 2), fewest_hands(inn, talk, tools[:1], 6, hush, 2), fewest_hands(inn, talk, tools[:1], 6, calm, 1)
(((2, ('quiet',)),), ((3, ('back',)),), ((4, ('back',)),))
>>> [hands_borne(inn, talk, tools, 6, wish, 2) for wish in (hush, ("seen", 1), ("sounds", 0))]
[0, 2, None]
>>> [are_hands(inn, talk, tools, 6, hush, own) for own in (((0, ("quiet",)), (3, ("quiet",))), ((0, ("quiet",)),))]
[True, False]
>>> lone = hands_paper(inn, talk, tools[2:], 3, ("sounds", 0), 1)
>>> [is_hands_paper(inn, talk, tools[2:], 3, ("sounds", 0), 1, own) for own in (lone, (), lone * 2)]
[True, False, False]
>>> hands_from(inn, stands((inn, talk, (), 3))[2], talk, tools, 3, 6, calm, 2), is_wish(inn, ("still", 0))
(((4, ('back',)),), False)
>>> hands_paper(inn, talk, tools, 6, hush, 2)
raises CanNot()
"""),
    (24, r"""
>>> is_so(("pledge", inn, ("within", 0, 0, 3))), is_so(("pledge", barred, ("within", 0, 0, 3))), is_so(("alike", inn, inn)), is_so(("still", inn, (1, 2), ((0, 2),)))
(True, False, True, True)
>>> is_paper_against(("pledge", barred, ("within", 0, 0, 3)), (1, 4)), is_paper_against(("pledge", barred, ("within", 0, 0, 3)), (1, 5))
(True, False)
>>> is_so(("cuts", inn, 0, (1, 1), (1, 4))), is_paper_against(("cuts", inn, 0, (1, 2), (1, 4)), ("short", (0, 3))), is_paper_against(("cuts", inn, 0, (1, 2), (1, 4)), ("break", (0, 3)))
(True, True, False)
>>> crack, fuse = ("break", (0, 3)), ("short", (0, 4))
>>> is_so(("mending", inn, (fuse, crack))), is_paper_against(("mending", inn, (crack, fuse)), (0, (0, 2))), is_paper_against(("still", inn, (0, 1, 2), ()), (1, ((0, 3), (0, 6))))
(True, True, True)
>>> first_fallen((("alike", inn, inn), ("alike", inn, barred)))
raises Unfit()
"""),
    (25, r"""
>>> house_text(inn)
'panels 1\nring 0\nfeel 0\ncut\nfeel 1\nfeel 2\nbell 0\ncut\nfeel 0\nzone 1 - 0.0 0.2\nzone 2 - 0.2 0.3 0.6\nline 0 any 0 3 - 0 4 0\nline 0 all 0,1 2 - 1 0 0\nout bell\nout door\n'
>>> read_house(house_text(loft)) == loft, spot_name((0, 12)), spot_read("1.03"), set_read("0,2"), deed_read("harm break 0.4"), deed_name(("quiet",)), log_name((3, None, "lost")), log_read("-,0,lost")
(True, '0.12', None, (0, 2), ('harm', ('break', (0, 4))), 'quiet', '3,-,lost', (None, 0, 'lost'))
>>> play = (inn, (((0, 0), ((1, 4), (6, None))), ((0, 3), ((2, None),))), ((3, ("off", (0, 2))), (3, ("back",))), 9)
>>> play_text(play)[len(house_text(inn)):], read_play(play_text(play)) == play
('speak 0.0 1-4 6-\nspeak 0.3 2-\ndeed 3 off 0.2\ndeed 3 back\nticks 9\n', True)
>>> read_house("panels 1\nring 0\nfeel 0\nzone 1 - 0.0\nring 0")
raises BadLine(number=4)
>>> read_house("panels 1\nring 0\nfeel 0\nzone 2 - 0.0")
raises Unfit()
>>> read_play(house_text(inn) + "deed 3 off 0.2")
raises BadLine(number=16)
"""),
    (26, r"""
>>> slate = Board(barred)
>>> slate.speak((0, 0)), slate.tell(("off", (0, 3))), slate.ahead(9), slate.feels((0, 0)), slate.now()
(None, None, (3, None), True, 0)
>>> slate.pass_by(2), slate.speak((0, 6)), slate.speak((0, 2)), slate.knocked(), slate.ahead(9), slate.ahead(1)
(None, None, None, (0,), (None, 3), (None, None))
>>> mate = slate.twin()
>>> slate.undo(), slate.ahead(9), slate == mate, slate.redo(), slate == mate, slate.play() == mate.play()
('speak', (3, None), False, 'speak', True, True)
>>> slate.pass_by(2), slate.stand()[6:], slate.sounding(), slate.ringing(), slate.knocked()
(None, ((), (None, 3), False), (1,), (), (0, 1))
>>> slate.play()[1:]
((((0, 0), ((0, None),)), ((0, 2), ((2, None),)), ((0, 6), ((2, None),))), ((0, ('off', (0, 3))),), 4)
>>> slate.hush((0, 0)), slate.speak((0, 0)), slate.play()[1][0]
(None, None, ((0, 0), ((0, None),)))
>>> slate.speak((0, 0))
raises Unfit()
>>> slate.tell(("part", 0))
raises Unfit()
>>> Board(inn).undo()
raises NothingDone()
"""),
    (27, r"""
>>> replies(barred, "speak 0.0\ntell off 0.3\nahead 9\npass 2\nspeak 0.6\nspeak 0.2\nknocked\nahead 9\nundo\nfeels 0.2\nredo\npass 2\nsounding\nringing")
['done', 'done', '3 -', 'done', 'done', 'done', '0', '- 3', 'speak', 'no', 'speak', 'done', '1', '-']
>>> replies(barred, "now\nspeak 0.1\nhush 0.0\ntell part 0\nredo\npass 60\nnow\nknocked\nundo\nspeak 0.0\npass 1\nplay")[:9]
['0', 'refused NoSpot', 'refused Unfit', 'refused Unfit', 'refused NothingDone', 'done', '60', '-', 'pass_by']
>>> is_request("pass 0"), is_request("ahead 0"), is_request("pass 61"), is_request("tell harm break 0.1"), is_request("speak 0"), is_request("now "), is_request(None)
(False, True, False, True, False, False, False)
>>> replies(inn, "now\nlook")
raises BadLine(number=1)
"""),
)
