"""The examples of the document, as they stand there. Names that were set once stay set."""

import doctest
import pathlib
import unittest

from roomahead import errors

EXAMPLES = {
    "A5": r"""
>>> from roomahead.nets import ahead, aims, net_error, relaned, renamed, serves
>>> wheel = (3, ((0, 1, 1), (1, 2, 1), (2, 0, 1)), (((), (0,), (0,)), ((1,), (), (1,)), ((2,), (2,), ())))
>>> hall = (3, ((0, 1, 1), (1, 0, 1), (1, 2, 2), (2, 1, 2)), (((), (0,), (0,)), ((1,), (), (2,)), ((3,), (3,), ())))
>>> fork = (3, ((0, 1, 1), (1, 2, 1), (2, 0, 1), (1, 0, 1)), (((), (0,), (0,)), ((3,), (), (1,)), ((2,), (2,), ())))
>>> pair = (2, ((0, 1, 1), (1, 0, 2)), (((), (0,)), ((1,), ())))
>>> [net_error(value) for value in (wheel, fork, pair, hall, (1, (), (((),),)), (2, (), (((), ()), ((), ()))), hall[:2], list(hall), None)]
[None, None, None, None, None, None, 'form', 'form', 'form']
>>> [net_error((houses,) + hall[1:]) for houses in (0, 7, True, "3", 4)]
['houses', 'houses', 'houses', 'houses', 'tables']
>>> [net_error((3, lanes, hall[2])) for lanes in ([], ((0, 1, 1),) * 17, ((0, 1, 1), (1, 1, 1)), ((0, 3, 1),), ((0, 1, 5),), ((0, 1),), hall[1][:3])]
['lanes', 'lanes', ('lane', 1), ('lane', 0), ('lane', 0), ('lane', 0), ('table', 2, 0)]
>>> [net_error((3, hall[1], tables)) for tables in (hall[2][:2], ((), (), ()), (hall[2][0], [], hall[2][2]), (((), (0, 0), (0,)),) + hall[2][1:], (((0,), (0,), (0,)),) + hall[2][1:], (((), (1,), (0,)),) + hall[2][1:])]
['tables', ('house', 0), ('house', 1), ('table', 0, 1), ('table', 0, 0), ('table', 0, 1)]
""",
    "A6": r"""
>>> serves(hall, 0, 2), serves(hall, 1, 2), aims(hall, 0), aims(hall, 2), aims(hall, 3), aims(wheel, 0)
(True, False, (1, 2), (2,), (0, 1), (1, 2))
>>> ahead(hall, 0, 2), ahead(hall, 0, 1), ahead(hall, 3, 0), ahead(hall, 0, 0), ahead(wheel, 0, 2)
((2,), (), (1,), (1,), (1,))
""",
    "A7": r"""
>>> renamed(wheel, (1, 2, 0))
(3, ((2, 0, 1), (0, 1, 1), (1, 2, 1)), (((), (1,), (1,)), ((2,), (), (2,)), ((0,), (0,), ())))
>>> relaned(wheel, (2, 0, 1))
(3, ((2, 0, 1), (0, 1, 1), (1, 2, 1)), (((), (1,), (1,)), ((2,), (), (2,)), ((0,), (0,), ())))
>>> renamed(hall, (0, 1, 2)) == hall, relaned(hall, (0, 1, 2, 3)) == hall, renamed((1, (), (((),),)), (0,))
(True, True, (1, (), (((),),)))
>>> relaned((2, ((0, 1, 1), (0, 1, 3)), (((), (0, 1)), ((), ()))), (1, 0))
(2, ((0, 1, 3), (0, 1, 1)), (((), (0, 1)), ((), ())))
""",
    "A8": r"""
>>> from roomahead.nettexts import net_text, read_net
>>> net_text(wheel).split("\n")
['houses 3', 'lane 0 1 1', 'lane 1 2 1', 'lane 2 0 1', 'way 0 1: 0', 'way 0 2: 0', 'way 1 0: 1', 'way 1 2: 1', 'way 2 0: 2', 'way 2 1: 2']
>>> net_text((1, (), (((),),))), read_net("houses 2\nlane 0 1 4\nlane 0 1 1\nway 0 1: 0 1"), read_net(net_text(hall)) == hall
('houses 1', (2, ((0, 1, 4), (0, 1, 1)), (((), (0, 1)), ((), ()))), True)
>>> read_net("houses 2\nlane 0 1 1\nway 0 1: 0\n")
raises BadText()
>>> read_net("houses 2\nlane 0 1 1\nway 1 0: 0")
raises BadText()
>>> read_net("houses 2\nlane 0 1 1\nway 0 1:")
raises BadText()
>>> read_net("houses 02")
raises BadText()
""",
    "B2": r"""
>>> from roomahead.stands import empty, stand_error
>>> empty(wheel), empty((2, (), (((), ()), ((), ()))))
(((), (), ()), ())
>>> [stand_error(wheel, value) for value in (((), (), ()), ((1,), (), ()), ((0,), (), ()), ((1, 2), (), ()), ((), ()), [(), (), ()], ((), (), [1]), ((True,), (), ()))]
[None, None, ('lane', 0), ('lane', 0), 'form', 'form', ('lane', 2), ('lane', 0)]
""",
    "B4": r"""
>>> from roomahead.moving import deed_error, done, held_fast, led, moves, open_deeds, stuck
>>> full = ((2,), (0,), (1,))
>>> [deed_error(wheel, empty(wheel), value) for value in (("in", 0, 2), ("in", 0, 0), ("on", 0, 1), ("out", 1), ("out", 3), ("in", 0), ["out", 0])]
[None, 'bar', 'bar', 'bar', 'form', 'form', 'form']
>>> [deed_error(wheel, full, value) for value in (("in", 0, 1), ("on", 0, 1), ("out", 0), ("out", 0, 0), ("on", 0, True), ("put", 0, 1), None)]
['bar', 'bar', 'bar', 'form', 'form', 'form', 'form']
>>> done(wheel, empty(wheel), ("in", 0, 2)), done(wheel, ((2,), (), ()), ("on", 0, 1)), done(wheel, ((), (2,), ()), ("out", 1))
(((2,), (), ()), ((), (2,), ()), ((), (), ()))
>>> done(wheel, ((2,), (), ()), ("on", 0, 2))
raises Refused(('on', 0, 2))
>>> led(wheel, empty(wheel), (("in", 0, 2), ("in", 1, 0), ("in", 2, 1))) == full, led(wheel, full, ()) == full
(True, True)
>>> led(wheel, empty(wheel), (("in", 0, 2), ("in", 0, 1), ("out", 0)))
raises Refused(('in', 0, 1))
""",
    "B5": r"""
>>> open_deeds(wheel, empty(wheel)) == (("in", 0, 1), ("in", 0, 2), ("in", 1, 0), ("in", 1, 2), ("in", 2, 0), ("in", 2, 1)), moves(wheel, empty(wheel))
(True, ())
>>> open_deeds(wheel, ((2,), (), (1,))), moves(wheel, ((2,), (), (1,)))
((('in', 1, 0), ('in', 1, 2), ('on', 0, 1)), (('on', 0, 1),))
>>> two = (2, ((0, 1, 2), (0, 1, 1), (1, 0, 1)), (((), (0, 1)), ((2,), ())))
>>> open_deeds(two, ((1, 1), (), ())), moves(two, ((), (1,), (0,)))
((('in', 1, 1), ('in', 2, 0), ('out', 0)), (('out', 1), ('out', 2)))
>>> [(stuck(wheel, stand), held_fast(wheel, stand)) for stand in (empty(wheel), ((2,), (), (1,)), full)]
[(False, False), (False, False), (True, True)]
>>> blind = (3, ((0, 1, 2), (1, 2, 1)), (((), (0,), (0,)), ((1,), (), (1,)), ((), (), ())))
>>> [(stuck(blind, stand), held_fast(blind, stand)) for stand in (((2, 1), (0,)), ((2, 2), (0,)), ((), (0,)), ((1, 2), (0,)))]
[(True, False), (True, True), (True, True), (False, False)]
""",
    "B6": r"""
>>> from roomahead.deedtexts import deeds_text, read_deeds
>>> deeds_text((("in", 0, 1), ("on", 0, 2), ("out", 2))), deeds_text(()), read_deeds("out 15; in 0 5"), read_deeds("none")
('in 0 1; on 0 2; out 2', 'none', (('out', 15), ('in', 0, 5)), ())
>>> read_deeds("in 0 1;on 0 2")
raises BadText()
>>> read_deeds("in 0 6")
raises BadText()
>>> read_deeds("out 02")
raises BadText()
>>> read_deeds("out 1; none")
raises BadText()
""",
    "C2": r"""
>>> from roomahead.lots import filling, free, greatest_lot, joined, lot_error, waves
>>> free(wheel), free(fork), free(pair), free((1, (), (((),),)))
(False, True, True, True)
>>> waves(wheel), waves(fork), waves(pair)
((0, 0, 0), (2, 1, 3, 1), (1, 1))
>>> lost = (3, ((0, 1, 2),), (((), (), (0,)), ((), (), ()), ((), (), ())))
>>> free(lost), waves(lost)
(False, (0,))
""",
    "C3": r"""
>>> greatest_lot(wheel), greatest_lot(fork), greatest_lot(lost), filling(lost, ((0, 2),))
(((0, 2), (1, 0), (2, 1)), (), ((0, 2),), (('in', 0, 2), ('in', 0, 2)))
>>> [lot_error(wheel, value) for value in (((0, 2), (1, 0), (2, 1)), (), ((0, 2), (1, 0)), ((0, 1), (1, 0), (2, 1)), ((1, 0), (0, 2)), ((0, 2), (3, 0)), [(0, 2)], ((0, True),))]
[None, 'form', ('open', 1), ('pair', 0), 'form', ('pair', 1), 'form', 'form']
>>> tangle = (3, ((0, 1, 3), (1, 2, 1), (2, 0, 1), (1, 0, 2)), (((), (0,), (0,)), ((1,), (), (3,)), ((2,), (2,), ())))
>>> greatest_lot(tangle), lot_error(tangle, ((0, 2), (3, 2))), lot_error(tangle, ((0, 2), (2, 1), (3, 2))), lot_error(tangle, ((1, 0), (2, 1)))
(((0, 2), (1, 0), (2, 1), (3, 2)), None, None, ('open', 1))
>>> joined(((0, 2), (3, 2)), ((0, 2), (2, 1), (3, 2)))
((0, 2), (2, 1), (3, 2))
""",
    "C4": r"""
>>> from roomahead.papers import paper, paper_error, row_error
>>> [row_error(fork, value) for value in ((1, 3, 0, 2), (3, 1, 0, 2), (2, 1, 3, 0), (0, 1, 2, 3), (1, 3, 2, 0), (1, 3, 0), (1, 3, 0, 0))]
[None, None, ('lane', 0), ('lane', 0), ('lane', 2), 'form', 'form']
>>> paper_error(fork, paper(fork)), paper(fork)[0], paper_error(wheel, paper(wheel)), paper(wheel)[0], paper_error(pair, ("free", (1, 0)))
(None, 'free', None, 'stuck', None)
>>> paper_error(wheel, ("free", (0, 1, 2))), paper_error(wheel, ("stuck", ())), paper_error(wheel, ("no", ())), paper_error(wheel, None)
(('lane', 0), 'form', 'form', 'form')
""",
    "D2": r"""
>>> from roomahead.prices import cheapest_lot, most_letters, price, soonest_stuck
>>> price(wheel, ((0, 2), (1, 0), (2, 1))), cheapest_lot(wheel), most_letters(wheel), cheapest_lot(fork), most_letters(fork)
(3, ((0, 2), (1, 0), (2, 1)), 2, (), None)
>>> [price(tangle, lot) for lot in (((0, 2), (3, 2)), ((0, 2), (2, 1), (3, 2)), greatest_lot(tangle))], cheapest_lot(tangle), most_letters(tangle)
([5, 6, 7], ((0, 2), (3, 2)), 4)
>>> price(lost, ((0, 2),)), cheapest_lot(lost), most_letters(lost)
(1, ((0, 2),), 0)
""",
    "D3": r"""
>>> soonest_stuck(fork), len(soonest_stuck(wheel)), len(soonest_stuck(tangle)), soonest_stuck(lost)
(None, 3, 5, (('in', 0, 2),))
""",
    "E2": r"""
>>> from roomahead.homes import dead_ends, longest, measure, ring, settles, wayless
>>> wander = (3, ((0, 1, 1), (1, 0, 1), (1, 2, 1)), (((), (), (0,)), ((), (), (1, 2)), ((), (), ())))
>>> [ring(fork, aim) for aim in (0, 1, 2)], [ring(wander, aim) for aim in (0, 1, 2)], ring(wheel, 0)
([None, None, None], [None, None, (0, 1)], None)
>>> dead = (3, ((0, 1, 1),), (((), (), (0,)), ((), (), ()), ((), (), ())))
>>> dead_ends(dead), dead_ends(wander), [settles(net) for net in (fork, wander, wheel, dead, pair, (1, (), (((),),)))]
(((0, 2),), (), [True, False, False, False, True, True])
""",
    "E3": r"""
>>> [longest(fork, aim) for aim in (0, 1, 2)], wayless(fork), wayless(dead)
([(0, 1, 1), (1, 0, 2), (2, 1, 0)], (), ((0, 1), (0, 2), (1, 0), (1, 2), (2, 0), (2, 1)))
>>> measure(fork, ((2,), (), (1,), ())), measure(fork, ((), (), (), ())), measure(fork, ((1,), (2,), (), ())), measure(pair, ((1,), (0, 0)))
(4, 0, 2, 3)
>>> wayless(wander), wayless(wheel), longest((1, (), (((),),)), 0)
(((0, 1), (1, 0), (2, 0), (2, 1)), (), (0,))
>>> longest(wander, 2)
raises Unfit()
>>> measure(wheel, ((), (), ()))
raises Unfit()
""",
    "E4": r"""
>>> from roomahead.rescues import homeward
>>> len(homeward(fork, ((2,), (), (1,), ()))), homeward(fork, ((1,), (), (), ())), homeward(fork, ((), (), (), ()))
(4, (('out', 0),), ())
>>> homeward(wander, ((2,), (), ())), len(homeward(wander, ((2,), (2,), ())))
((('on', 0, 2), ('out', 2)), 5)
>>> homeward(wheel, ((2,), (0,), (1,))), len(homeward(wheel, ((2,), (0,), ()))), homeward(dead, ((2,),))
(None, 4, None)
""",
    "F2": r"""
>>> from roomahead.makers import circle, grid, nearest, one_way, up_down
>>> grid(2, 1, 1), grid(1, 1, 2), circle(3, 2)
((2, ((0, 1, 1), (1, 0, 1))), (1, ()), (3, ((0, 1, 2), (1, 2, 2), (2, 0, 2), (1, 0, 2), (2, 1, 2), (0, 2, 2))))
>>> grid(2, 2, 3)
(4, ((0, 1, 3), (1, 0, 3), (0, 2, 3), (2, 0, 3), (1, 3, 3), (3, 1, 3), (2, 3, 3), (3, 2, 3)))
>>> len(grid(3, 2, 1)[1]), grid(3, 2, 1)[1][:6]
(14, ((0, 1, 1), (1, 0, 1), (0, 3, 1), (3, 0, 1), (1, 2, 1), (2, 1, 1)))
""",
    "F3": r"""
>>> nearest(3, ((0, 1, 1), (1, 2, 1), (2, 0, 1))) == wheel, nearest(2, ((0, 1, 1), (1, 0, 2))) == pair, nearest(3, ((0, 1, 1),))[2]
(True, True, (((), (0,), ()), ((), (), ()), ((), (), ())))
>>> nearest(*grid(2, 2, 1))[2]
(((), (0,), (2,), (0, 2)), ((1,), (), (1, 4), (4,)), ((3,), (3, 6), (), (6,)), ((5, 7), (5,), (7,), ()))
""",
    "F4": r"""
>>> up_down(*circle(3, 1), 0)[2], up_down(*circle(3, 1), 2)[2]
((((), (0,), (0, 5)), ((3,), (), (1,)), ((2, 4), (2, 4), ())), (((), (0,), (5,)), ((1, 3), (), (1, 3)), ((2,), (2, 4), ())))
>>> up_down(*grid(2, 2, 1), 0)[2]
(((), (0,), (2,), (0, 2)), ((1,), (), (1,), (4,)), ((3,), (3,), (), (6,)), ((5, 7), (5, 7), (5, 7), ()))
>>> up_down(2, ((0, 1, 1),), 0)
raises Unfit()
>>> up_down(3, ((0, 1, 1), (1, 0, 1)), 0)
raises Unfit()
""",
    "F5": r"""
>>> one_way(3, 2)
(3, ((0, 1, 2), (1, 2, 2), (2, 0, 2), (0, 1, 2), (1, 2, 2), (2, 0, 2)), (((), (0,), (0,)), ((4,), (), (1,)), ((5,), (5,), ())))
>>> one_way(2, 1)[2]
(((), (0,)), ((3,), ()))
""",
    "G2": r"""
>>> from roomahead.choices import addable, choices_left, mending, widest, with_choice, without_choice
>>> choices_left(wheel), choices_left(fork), with_choice(fork, (1, 0, 1))[2], without_choice(fork, (1, 0, 3))[2]
((), ((1, 0, 1), (1, 2, 3)), (((), (0,), (0,)), ((1, 3), (), (1,)), ((2,), (2,), ())), (((), (0,), (0,)), ((), (), (1,)), ((2,), (2,), ())))
>>> with_choice(fork, (1, 0, 3))
raises Unfit()
>>> without_choice(fork, (1, True, 3))
raises Unfit()
""",
    "G3": r"""
>>> from roomahead.makers import circle, up_down
>>> three = up_down(*circle(3, 1), 0)
>>> addable(fork), widest(fork)[2], addable(three), widest(three)[2], choices_left(widest(three))
(((1, 2, 3),), (((), (0,), (0,)), ((3,), (), (1, 3)), ((2,), (2,), ())), ((0, 1, 5), (1, 0, 1), (1, 2, 3)), (((), (0, 5), (0, 5)), ((1, 3), (), (1,)), ((2, 4), (2, 4), ())), ((1, 2, 3),))
>>> addable(wheel)
raises Unfit()
""",
    "G4": r"""
>>> spoke, prong = (3, ((0, 1, 1), (1, 2, 1)), (((), (0,), (0,)), ((), (), ()), ((), (), ()))), (4, ((0, 1, 1), (1, 2, 1), (1, 3, 1)), (((), (0,), (0,), (0,)), ((), (), (), ()), ((), (), (), ()), ((), (), (), ())))
>>> mending(spoke), mending(prong), mending(wheel), mending(fork)
(((1, 2, 1),), ((1, 2, 1), (1, 3, 2)), None, ())
""",
    "G5": r"""
>>> from roomahead.falls import risky, without
>>> without(three, (5,))[2], risky(three), risky(widest(three)), risky(fork)
((((), (0,), (0,)), ((3,), (), (1,)), ((2, 4), (2, 4), ())), (), (3, 4), ())
>>> without(widest(three), (3,))[2]
(((), (0, 5), (0, 5)), ((1,), (), (1,)), ((2, 4), (2, 4), ()))
""",
    "H2": r"""
>>> from roomahead.levels import bad_groups, fewest_levels, levelled, only
>>> only(wheel, (0, 2))[2], bad_groups(wheel), bad_groups(fork)
((((), (), (0,)), ((1,), (), (1,)), ((2,), (), ())), ((0, 1, 2),), ())
>>> from roomahead.makers import grid, nearest
>>> square = nearest(*grid(2, 2, 1))
>>> bad_groups(square), bad_groups(spoke)
(((0, 1, 2, 3),), ((2,),))
""",
    "H3": r"""
>>> fewest_levels(wheel), fewest_levels(fork), fewest_levels(square)
((0, 0, 1), (0, 0, 0), (0, 0, 0, 1))
>>> levelled(wheel, (0, 0, 1))
(3, ((0, 1, 1), (1, 2, 1), (2, 0, 1), (0, 1, 1), (1, 2, 1), (2, 0, 1)), (((), (0,), (3,)), ((1,), (), (4,)), ((2,), (2,), ())))
>>> levelled(square, (0, 0, 0, 1))[2][3], levelled(fork, (0, 0, 0)) == fork
(((5, 7), (5,), (7,), ()), True)
>>> fewest_levels(spoke)
raises Unfit()
>>> levelled(square, (0, 1, 2, 0))
raises TooMany(16)
""",
    "J3": r"""
>>> from roomahead.stages import changed, stage_filling, stage_lot
>>> six = ((0, 1, 1), (1, 2, 1), (2, 0, 1), (1, 0, 1), (2, 1, 1), (0, 2, 1))
>>> old = (3, six, (((), (0,), (0,)), ((1,), (), (1,)), ((2,), (4,), ())))
>>> new = (3, six, (((), (0,), (5,)), ((1,), (), (1,)), ((2,), (2,), ())))
>>> changed(old, new), changed(old, old), [stage_lot(old, new, (), now) for now in ((), (0,), (2,))]
((0, 2), (), [(), (), ((0, 2), (1, 0), (2, 1))])
>>> stage_lot(old, new, (), (0, 2)), stage_lot(old, new, (0,), (0, 2)), stage_lot(old, new, (2,), (0, 2)), stage_lot(old, new, (0, 2), (0, 2))
(((0, 2), (1, 0), (2, 1)), (), ((0, 2), (1, 0), (2, 1)), ())
>>> stage_filling(old, new, (), (0, 2), ((0, 2), (1, 0), (2, 1)))
((('in', 0, 2), ('in', 1, 0)), (('in', 2, 1),))
>>> stage_filling(old, new, (2,), (0, 2), ((0, 2), (1, 0), (2, 1)))
((('in', 0, 2), ('in', 1, 0)), (('in', 2, 1),))
>>> stage_lot(old, new, (0,), ())
raises Unfit()
>>> stage_lot(old, new, (), (1,))
raises Unfit()
>>> changed(old, (3, six[:5], old[2]))
raises Unfit()
""",
    "J4": r"""
>>> from roomahead.exchanges import exchange_row, least_still, still_plan
>>> straight = (3, six, (((), (0,), (5,)), ((1,), (), (1,)), ((2,), (4,), ())))
>>> wrong = (3, six, (((), (0,), (0,)), ((1,), (), (1,)), ((2,), (2,), ())))
>>> exchange_row(old, straight), least_still(old, straight), still_plan(old, straight), exchange_row(old, old), still_plan(old, old)
((0,), 0, ((0,), (), ()), (), ((), (), ()))
>>> exchange_row(old, new), least_still(old, new), still_plan(old, new) in (((0,), (2,), ()), ((), (0,), (2,)))
(None, 1, True)
>>> exchange_row(old, wrong), least_still(old, wrong), still_plan(old, wrong), stage_lot(old, wrong, (2,), (2,))
(None, None, None, ((0, 2), (1, 0), (2, 1)))
""",
    "K2": r"""
>>> from roomahead.askdeeds import ask_done, ask_moves, ask_stand_error, ask_stuck
>>> from roomahead.asklots import apart, ask_filling, ask_free, ask_lot
>>> desk = (2, ((0, 1, 1), (1, 0, 1)), (((), (0,)), ((1,), ())))
>>> ask_moves(desk, desk, ((("ask", 1, 0),), ())), ask_done(desk, desk, ((("ask", 1, 0),), ()), ("on", 0, 1)), ask_moves(desk, desk, ((("ask", 1, 1),), ()))
((('on', 0, 1),), ((), (('answer', 0),)), (('out', 0),))
>>> both = ask_done(desk, desk, ((("ask", 1, 0),), ()), ("in", 1, ("ask", 0, 1)))
>>> both, ask_moves(desk, desk, both), ask_stuck(desk, desk, both), ask_stuck(desk, desk, ((), ()))
(((('ask', 1, 0),), (('ask', 0, 1),)), (), True, False)
>>> [ask_stand_error(desk, desk, value) for value in (both, ((), (("answer", 0),)), ((), (("answer", 1),)), ((("ask", 1),), ()), ((),), ([], ()))]
[None, None, ('lane', 1), ('lane', 0), 'form', ('lane', 0)]
>>> ask_done(desk, desk, both, ("in", 0, ("answer", 1)))
raises Refused(('in', 0, ('answer', 1)))
""",
    "K3": r"""
>>> ask_lot(desk, desk), ask_free(desk, desk), apart(desk, desk), ask_filling(desk, desk, ask_lot(desk, desk))
(((0, ('ask', 1, 0)), (1, ('ask', 0, 1))), False, False, (('in', 0, ('ask', 1, 0)), ('in', 1, ('ask', 0, 1))))
>>> four = ((0, 1, 1), (1, 0, 1), (0, 1, 1), (1, 0, 1))
>>> there, home_again, mute = (2, four, (((), (0,)), ((1,), ()))), (2, four, (((), (2,)), ((3,), ()))), (2, four, (((), ()), ((), ())))
>>> ask_free(there, home_again), apart(there, home_again), ask_lot(there, home_again)
(True, True, ())
>>> ask_lot(there, mute), apart(there, mute), ask_free(mute, there)
(((0, ('ask', 1, 0)), (1, ('ask', 0, 1))), True, True)
>>> ask_free(desk, there)
raises Unfit()
""",
    "L3": r"""
>>> from roomahead.beats import homecomings, state_at
>>> some = ((0, 0, 1), (0, 0, 1), (0, 1, 0), (2, 0, 1))
>>> homecomings(pair, some, "low"), [state_at(pair, some, "low", beat) for beat in range(4)]
((1, 2, 1, 3), [((0,), (2,)), ((1,), ()), ((3,), ()), ((), ())])
>>> at_once, one_by_one = ((0, 0, 2), (0, 1, 0), (0, 2, 1)), ((0, 0, 2), (1, 1, 0), (2, 2, 1))
>>> homecomings(wheel, at_once, "low"), state_at(wheel, at_once, "low", 7), homecomings(wheel, one_by_one, "low"), homecomings(fork, at_once, "low")
((None, None, None), ((0,), (1,), (2,)), (2, 5, 4), (2, 1, 2))
>>> [state_at(wheel, one_by_one, "low", beat) for beat in range(5)]
[((0,), (), ()), ((), (0,), ()), ((), (1,), (2,)), ((2,), (1,), ()), ((), (), (1,))]
>>> street = (3, ((0, 1, 1), (1, 0, 1), (1, 2, 1), (2, 1, 1)), (((), (0,), (0,)), ((1,), (), (2,)), ((3,), (3,), ())))
>>> crowd = ((0, 0, 2), (0, 0, 2), (0, 1, 2), (0, 1, 2))
>>> homecomings(street, crowd, "low"), homecomings(street, crowd, "eldest")
((4, 6, 1, 2), (4, 5, 1, 2))
""",
    "M2": r"""
>>> from roomahead.benches import Bench, bench_behind
>>> b = Bench()
>>> [b.put("round", wheel), b.put("fork", fork), b.way("fork", 1, 0, 1), b.names, b.version, b.net("fork")[2][1]]
[1, 2, 3, ('fork', 'round'), 3, ((1, 3), (), (1,))]
>>> b.put("round", fork)
raises Taken('round')
>>> b.put("Round", fork)
raises Unfit()
>>> b.put("other", wheel[:2])
raises BadNet('form')
>>> b.way("fork", 1, 0, 1)
raises Unfit()
>>> b.room("round", 3, 1)
raises Unfit()
>>> b.drop("wheel")
raises NoNet('wheel')
>>> [b.undo(), b.undo(), b.names, b.redo(), b.net("fork") == fork, b.log[1], b.at(1) == (("round", wheel),)]
[2, 1, ('round',), 2, True, ('put', ('fork', (3, ((0, 1, 1), (1, 2, 1), (2, 0, 1), (1, 0, 1)), (((), (0,), (0,)), ((3,), (), (1,)), ((2,), (2,), ()))))), True]
>>> bench_behind(b.log) == b, bench_behind(b.log[:1]) == b, b == 2, bench_behind(()).names
(True, False, False, ())
>>> bench_behind((("put", ("a", wheel)), ("drop", ("b",))))
raises BadLog(1)
>>> b.at(3)
raises NoVersion(3)
""",
    "M3": r"""
>>> [b.judged, b.free("fork"), b.most("fork"), b.judged, b.free("round"), b.most("round"), b.judged]
[0, True, None, 1, False, 2, 2]
>>> [b.way("fork", 1, 0, 1), b.free("fork"), b.judged, b.undo(), b.free("fork"), b.judged, b.put("again", fork), b.most("again"), b.judged]
[3, False, 3, 2, True, 3, 3, None, 3]
>>> c = b.copy()
>>> [c.judged, c.room("round", 0, 4), c.most("round"), c.judged, b.judged, b.most("round"), c == b, c.undo(), c == b]
[3, 4, 5, 4, 3, 2, False, 3, True]
""",
    "M4": r"""
>>> from roomahead.shells import Shell
>>> s = Shell()
>>> [s.say(line) for line in ("names", "put a houses 2", "put b houses 2\nlane 0 1 1\nlane 1 0 2\nway 0 1: 0\nway 1 0: 1", "names", "free b", "most b", "lot b", "judged")]
['none', 'version 1', 'version 2', 'a b', 'free', 'any', 'none', '1']
>>> [s.say(line) for line in ("play b in 0 1; out 0", "play b in 0 1; in 0 1", "play b in 0 1; in 1 0", "play b none", "play b in 0", "play c none", "way b 0 1 0", "way b 0 1 1", "room b 0 4", "show b")]
['empty', 'refused 1', 'going', 'empty', 'error BadText', 'error NoNet', 'error Unfit', 'error Unfit', 'version 3', 'houses 2\nlane 0 1 4\nlane 1 0 2\nway 0 1: 0\nway 1 0: 1']
>>> [s.say(line) for line in ("put a houses 2", "put a houses 02", "put A houses 2", "drop  a", "undo", "undo", "undo", "undo", "redo", "Names", 5)]
['error Taken', 'error BadText', 'what', 'what', 'version 2', 'version 1', 'version 0', 'error NothingToUndo', 'version 1', 'what', 'what']
""",
}


def calls(section):
    """The pairs of a call and what is told behind it, "" if it only sets names."""
    pairs = []
    for line in EXAMPLES[section].strip().split("\n"):
        if line.startswith(">>> "):
            pairs.append([line[4:], ""])
        else:
            pairs[-1][1] = line
    return pairs


def names_ahead(section):
    """The names that the examples ahead of this section set, and benches as these left them."""
    names = {}
    for other in EXAMPLES:
        if other == section:
            return names
        for call, told in calls(other):
            # What raises changes nothing.
            if not told.startswith("raises "):
                exec(call, names)


class Examples(unittest.TestCase):

    def run_section(self, section):
        names = names_ahead(section)
        checked = 0
        for call, told in calls(section):
            with self.subTest(call=call):
                if told == "":
                    exec(call, names)
                elif told.startswith("raises "):
                    self.check_error(call, eval(told[len("raises "):], dict(vars(errors))), names)
                    checked += 1
                else:
                    self.assertEqual(repr(eval(call, names)), told)
                    checked += 1
        self.assertGreater(checked, 0)

    def check_error(self, call, error, names):
        with self.assertRaises(errors.RoomError) as caught:
            eval(call, names)
        self.assertIs(type(caught.exception), type(error))
        self.assertEqual(repr(vars(caught.exception)), repr(vars(error)))

    def test_a5_net_error(self):
        self.run_section("A5")

    def test_a6_serves_aims_ahead(self):
        self.run_section("A6")

    def test_a7_renamed_relaned(self):
        self.run_section("A7")

    def test_a8_net_texts(self):
        self.run_section("A8")

    def test_b2_stands(self):
        self.run_section("B2")

    def test_b4_deed_error_done_led(self):
        self.run_section("B4")

    def test_b5_open_deeds_moves_stuck(self):
        self.run_section("B5")

    def test_b6_deed_texts(self):
        self.run_section("B6")

    def test_c2_free_waves(self):
        self.run_section("C2")

    def test_c3_lots(self):
        self.run_section("C3")

    def test_c4_papers(self):
        self.run_section("C4")

    def test_d2_prices(self):
        self.run_section("D2")

    def test_d3_soonest_stuck(self):
        self.run_section("D3")

    def test_e2_ring_dead_ends_settles(self):
        self.run_section("E2")

    def test_e3_longest_measure_wayless(self):
        self.run_section("E3")

    def test_e4_homeward(self):
        self.run_section("E4")

    def test_f2_grid_circle(self):
        self.run_section("F2")

    def test_f3_nearest(self):
        self.run_section("F3")

    def test_f4_up_down(self):
        self.run_section("F4")

    def test_f5_one_way(self):
        self.run_section("F5")

    def test_g2_choices(self):
        self.run_section("G2")

    def test_g3_addable_widest(self):
        self.run_section("G3")

    def test_g4_mending(self):
        self.run_section("G4")

    def test_g5_without_risky(self):
        self.run_section("G5")

    def test_h2_bad_groups(self):
        self.run_section("H2")

    def test_h3_fewest_levels_levelled(self):
        self.run_section("H3")

    def test_j3_stages(self):
        self.run_section("J3")

    def test_j4_rows_and_plans(self):
        self.run_section("J4")

    def test_k2_askdeeds(self):
        self.run_section("K2")

    def test_k3_asklots(self):
        self.run_section("K3")

    def test_l3_beats(self):
        self.run_section("L3")

    def test_m2_benches(self):
        self.run_section("M2")

    def test_m3_judgements(self):
        self.run_section("M3")

    def test_m4_shells(self):
        self.run_section("M4")

    def test_the_readme(self):
        readme = pathlib.Path(__file__).resolve().parent.parent / "README.md"
        failed, tried = doctest.testfile(str(readme), module_relative=False)
        self.assertEqual((failed, tried > 3), (0, True))


if __name__ == "__main__":
    unittest.main()
