"""J1 to J3, J5, and A2 (f) so far as it speaks of stages."""

import itertools
import unittest

from roomahead.errors import TooMany, Unfit
from roomahead.lots import greatest_lot
from roomahead.makers import grid, nearest, one_way, up_down
from roomahead.moving import held_fast, led
from roomahead.stages import changed, stage_filling, stage_lot
from roomahead.stands import empty
from tests.helper import (
    ALONE, BARE, DEAD, FORK, HALL, LOST, NETS, PAIR, SIX, TWO, UNTOLD, WHEEL, all_stages, exchanged, fields, great_pairs,
    in_time, led_nets, letters, net_with_entry, outcome, pairs_of_nets, plain_aims, plain_changed, plain_deeds, plain_done,
    plain_stage_lot, plain_stage_lots, plain_stage_open, plain_stuck, random_nets, result, steady,
)

LANES = ((0, 1, 1), (1, 2, 1), (2, 0, 1), (1, 0, 1), (2, 1, 1), (0, 2, 1))
OLD = (3, LANES, (((), (0,), (0,)), ((1,), (), (1,)), ((2,), (4,), ())))
NEW = (3, LANES, (((), (0,), (5,)), ((1,), (), (1,)), ((2,), (2,), ())))
WRONG = (3, LANES, (((), (0,), (0,)), ((1,), (), (1,)), ((2,), (2,), ())))
SMALL = [(OLD, NEW), (OLD, WRONG), (NEW, OLD), (NEW, WRONG), (WRONG, NEW)]
SMALL += pairs_of_nets(130, 60, 3, 5) + pairs_of_nets(131, 60, 4, 6)
GREAT = great_pairs(132, 12) + [(up_down(*grid(2, 2, 2), 0), up_down(*grid(2, 2, 2), 3))]
PAIRS = SMALL + pairs_of_nets(133, 40) + GREAT
# All houses but one are changed.
FIVE = (SIX, exchanged(SIX, (*SIX[:2], (((),) * 6,) * 6), (0, 1, 2, 4, 5)))
NO_STAGES = (
    ((), (1,)), ((1,), (1,)), ((0,), ()), ((0,), (2,)), ((0, 2), (0,)), ((), (0, 0)), ((0, 0), (0, 2)), ((), (2, 0)),
    ((2, 0), (0, 2)), ((2, 2), (2, 2)), ((), (0, 1, 2)), ((), (0, 2, 3)), ((), (-1,)), ((), (3,)), ((-3,), (-3,)),
    ((), (10 ** 399,)), ((10 ** 399,), (0,)), ((-(10 ** 399),), (0, 2)), ((0,), (0, 2, 10 ** 30)), ((0,), (-1, 0)),
)


def unlike_nets():
    """Pairs of nets with other houses, other lanes, other rooms, or lanes in another order."""
    found = [(ALONE, BARE), (HALL, FORK), (PAIR, TWO), (WHEEL, HALL), (WHEEL, UNTOLD), (SIX, FIVE[1][:1] + PAIR[1:])]
    found += [(LOST, DEAD)]
    for net in (WHEEL, SIX, OLD):
        (start, end, room), *others = net[1]
        found.append((net, (net[0], ((start, end, room % 4 + 1), *others), net[2])))
        found.append((net, (net[0], net[1][:-1], tuple(
            tuple(tuple(k for k in entry if k < len(net[1]) - 1) for entry in table) for table in net[2]
        ))))
    found.append((PAIR, (3, PAIR[1], tuple(table + ((),) for table in PAIR[2]) + (((),) * 3,))))
    # Lanes in another order, and yet the same tables.
    found.append(((2, ((0, 1, 1), (0, 1, 2)), BARE[2]), (2, ((0, 1, 2), (0, 1, 1)), BARE[2])))
    return found + [(new, old) for old, new in found]


class Changed(unittest.TestCase):

    def test_against_the_tables(self):
        met = set()
        for old, new in PAIRS:
            told = tuple(u for u in range(old[0]) if old[2][u] != new[2][u])
            self.assertEqual(repr(result(changed, old, new)), repr(told))
            self.assertEqual(changed(new, old), told)
            met.add(len(told))
        self.assertEqual(met, {0, 1, 2, 3, 4})

    def test_a_net_and_itself(self):
        for net in NETS + tuple(random_nets(134, 20)):
            again = (net[0], tuple(tuple(lane) for lane in net[1]), tuple(tuple(table) for table in net[2]))
            self.assertEqual(repr(result(changed, net, again)), "()")

    def test_one_entry_is_enough(self):
        for u, d in itertools.permutations(range(6), 2):
            entry = SIX[2][u][d][1:]
            self.assertEqual(result(changed, SIX, net_with_entry(SIX, u, d, entry)), (u,))

    def test_unlike_houses_or_lanes(self):
        for old, new in unlike_nets():
            self.assertEqual(fields(Unfit, changed, old, new), {})

    def test_more_than_four(self):
        bare = (*SIX[:2], (((),) * 6,) * 6)
        for many in range(7):
            for among in itertools.combinations(range(6), many):
                new = exchanged(SIX, bare, among)
                if many <= 4:
                    self.assertEqual(result(changed, SIX, new), among)
                else:
                    self.assertEqual(fields(TooMany, changed, SIX, new), {"limit": 4})

    def test_unlike_lanes_go_ahead_of_many_changes(self):
        (start, end, room), *others = FIVE[1][1]
        other = (6, ((start, end, room + 1), *others), FIVE[1][2])
        self.assertEqual(fields(Unfit, changed, FIVE[0], other), {})


class NoStages(unittest.TestCase):

    def test_what_is_no_stage(self):
        self.assertEqual(changed(OLD, NEW), (0, 2))
        for before, now in NO_STAGES:
            self.assertEqual(fields(Unfit, stage_lot, OLD, NEW, before, now), {})
            self.assertEqual(fields(Unfit, stage_filling, OLD, NEW, before, now, ((0, 2), (1, 0), (2, 1))), {})

    def test_just_the_stages_are_stages(self):
        rows = [row for many in range(4) for row in itertools.product(range(3), repeat=many)]
        for old, new in SMALL[:1] + SMALL[5:12]:
            good = all_stages(old, new)
            for before, now in itertools.product(rows, repeat=2):
                told = outcome(stage_lot, (old, new, before, now), {})
                if max(before + now, default=0) < 3 <= old[0] or (before, now) not in good:
                    self.assertEqual(told[0] == "returned", (before, now) in good)

    def test_nothing_changed(self):
        for net in NETS:
            self.assertEqual(result(stage_lot, net, net, (), ()), greatest_lot(net))
            self.assertEqual(fields(Unfit, stage_lot, net, net, (), (0,)), {})

    def test_the_order_of_the_errors(self):
        for old, new in unlike_nets():
            for before, now in (((), ()), ((), (0, 0)), ((10 ** 399,), ())):
                self.assertEqual(fields(Unfit, stage_lot, old, new, before, now), {})
                self.assertEqual(fields(Unfit, stage_filling, old, new, before, now, ((0, 1),)), {})
        for before, now in NO_STAGES + (((), ()), ((0,), (0, 1))):
            self.assertEqual(fields(TooMany, stage_lot, *FIVE, before, now), {"limit": 4})
            self.assertEqual(fields(TooMany, stage_filling, *FIVE, before, now, ((0, 1),)), {"limit": 4})


class StageLot(unittest.TestCase):

    def test_against_all_parts_of_the_lanes(self):
        met = set()
        for old, new in SMALL:
            for before, now in all_stages(old, new):
                lots = plain_stage_lots(old, new, before, now)
                lanes = sorted({lane for lot in lots for lane, _ in lot})
                told = tuple((lane, min(dict(lot)[lane] for lot in lots if lane in dict(lot))) for lane in lanes)
                self.assertEqual(repr(result(stage_lot, old, new, before, now)), repr(told))
                self.assertTrue(told == () or told in lots)
                met.add((now == (), before == now, now == changed(old, new), told != ()))
        # For no house, for some, and for all of them exchanged, a while ago or just now; with and without lots.
        self.assertEqual(len(met), 12)

    def test_against_the_striking_out_on_greater_nets(self):
        found = set()
        for old, new in PAIRS:
            for before, now in all_stages(old, new):
                told = plain_stage_lot(old, new, before, now)
                self.assertEqual(repr(outcome(stage_lot, (old, new, before, now), {})), repr(("returned", told)))
                found.add(len(told))
        self.assertGreater(len(found), 10)

    def test_the_first_and_the_last_stage(self):
        for old, new in PAIRS:
            told = changed(old, new)
            self.assertEqual(result(stage_lot, old, new, (), ()), greatest_lot(old))
            self.assertEqual(result(stage_lot, old, new, told, told), greatest_lot(new))

    def test_houses_left_out_of_before(self):
        more = 0
        for old, new in PAIRS:
            for before, now in all_stages(old, new):
                lot = stage_lot(old, new, before, now)
                for house in before:
                    fewer = tuple(u for u in before if u != house)
                    wider = stage_lot(old, new, fewer, now)
                    self.assertLessEqual({lane for lane, _ in lot}, {lane for lane, _ in wider})
                    more += lot == () != wider
        self.assertGreater(more, 5)

    def test_by_hand(self):
        # Letters for 2 wait for one another where 0 has lane 0 for them, or had it since the net was empty.
        ring = ((0, 2), (1, 0), (2, 1))
        for before, now, told in (
            ((), (), ()), ((), (0,), ()), ((0,), (0,), ()), ((), (2,), ring), ((2,), (2,), ring), ((), (0, 2), ring),
            ((0,), (0, 2), ()), ((2,), (0, 2), ring), ((0, 2), (0, 2), ()),
        ):
            self.assertEqual(result(stage_lot, OLD, NEW, before, now), told)
        self.assertEqual(repr(result(stage_lot, ALONE, ALONE, (), ())), "()")
        self.assertEqual(repr(result(stage_lot, BARE, BARE, (), ())), "()")
        self.assertEqual(result(stage_lot, LOST, LOST, (), ()), ((0, 2),))

    def test_a_dead_end_by_old_letters(self):
        # The house 0 sends no more letters for 2 to the house 1, which forgets them: some may be under way yet.
        old = (3, ((0, 1, 2), (1, 2, 1), (0, 2, 1)), (((), (0,), (0,)), ((), (), (1,)), ((), (), ())))
        new = (3, old[1], (((), (0,), (2,)), ((), (), ()), ((), (), ())))
        for before, now, told in (
            ((), (), ()), ((), (0,), ()), ((), (1,), ((0, 2),)), ((), (0, 1), ((0, 2),)), ((0,), (0, 1), ()),
            ((1,), (0, 1), ((0, 2),)), ((0, 1), (0, 1), ()),
        ):
            self.assertEqual(result(stage_lot, old, new, before, now), told)
        self.assertEqual(stage_filling(old, new, (), (0, 1), ((0, 2),)), ((("in", 0, 2),) * 2, ()))
        # The other way round it is the new table that sends them there.
        self.assertEqual(result(stage_lot, new, old, (), (0,)), ((0, 2),))
        self.assertEqual(stage_filling(new, old, (), (0,), ((0, 2),)), ((), (("in", 0, 2),) * 2))


def with_room(net, room):
    return (net[0], tuple((start, end, room) for start, end, _ in net[1]), net[2])


def can_get_stuck(old, new, before, now):
    """Whether in some run letters are stuck behind the exchanges: all stands of all moments are gone through."""
    beginning = (empty(old), before)
    met, rows = {beginning}, [beginning]
    while rows:
        stand, having = rows.pop()
        tables = exchanged(old, new, having)
        if set(having) == set(now) and plain_stuck(tables, stand):
            return True
        behind = [(plain_done(tables, stand, deed), having) for deed in plain_deeds(old)]
        behind += [(stand, tuple(sorted(having + (u,)))) for u in now if u not in having]
        for state in behind:
            if state[0] is not None and state not in met:
                met.add(state)
                rows.append(state)
    return False


class Runs(unittest.TestCase):

    def test_letters_can_be_stuck_exactly_if_the_stage_has_a_lot(self):
        told = []
        for old, new in SMALL:
            for room in (1, 2):
                one, other = with_room(old, room), with_room(new, room)
                served = [set(plain_aims(old, k) + plain_aims(new, k)) for k in range(len(old[1]))]
                many = 1
                for aims in served:
                    many *= sum(len(aims) ** lying for lying in range(room + 1))
                if many > 250:
                    continue
                for before, now in all_stages(old, new):
                    stuck = can_get_stuck(one, other, before, now)
                    self.assertIs(stage_lot(one, other, before, now) != (), stuck, (one, other, before, now))
                    told.append(stuck)
        self.assertGreater(min(told.count(True), told.count(False)), 60)


class StageFilling(unittest.TestCase):

    def each_lot(self):
        for old, new in PAIRS:
            for before, now in all_stages(old, new):
                lots = plain_stage_lots(old, new, before, now)[:5] if len(old[1]) < 7 else []
                for lot in lots + [stage_lot(old, new, before, now)]:
                    if lot:
                        yield old, new, before, now, lot

    def test_which_deeds_stand_where(self):
        met = set()
        for old, new, before, now, lot in self.each_lot():
            early, late = [], []
            for lane, aim in lot:
                start, _, room = old[1][lane]
                soon = start not in before and lane in old[2][start][aim]
                (early if soon else late).extend([("in", lane, aim)] * room)
                met.add((soon, start in before, start in now, room))
            told = result(stage_filling, old, new, before, now, lot)
            self.assertEqual(repr(told), repr((tuple(early), tuple(late))))
        kinds = {kind[:3] for kind in met}
        self.assertEqual(kinds, {
            (True, False, False), (True, False, True), (False, False, True), (False, True, True),
        })
        self.assertEqual({kind[3] for kind in met}, {1, 2, 3})

    def test_both_can_be_done_and_then_each_letter_is_held_fast(self):
        count = 0
        for old, new, before, now, lot in self.each_lot():
            early, late = stage_filling(old, new, before, now, lot)
            stand = led(exchanged(old, new, before), empty(old), early)
            stand = led(exchanged(old, new, now), stand, late)
            self.assertIs(held_fast(exchanged(old, new, now), stand), True)
            self.assertIs(plain_stuck(exchanged(old, new, now), stand), True)
            self.assertEqual(letters(stand), sum(old[1][lane][2] for lane, _ in lot))
            count += early != () != late
        self.assertGreater(count, 50)

    def test_lots_with_other_aims(self):
        # Any lot will do, not only the one that stage_lot tells.
        count = 0
        for old, new in SMALL:
            for before, now in all_stages(old, new):
                for lot in plain_stage_lots(old, new, before, now)[-3:]:
                    early, late = result(stage_filling, old, new, before, now, lot)
                    self.assertEqual(sorted(set(early + late)), [("in", lane, aim) for lane, aim in lot])
                    count += lot != stage_lot(old, new, before, now)
        self.assertGreater(count, 50)

    def test_the_stages_of_the_example(self):
        ring = ((0, 2), (1, 0), (2, 1))
        for before, now in (((), (2,)), ((), (0, 2)), ((2,), (0, 2)), ((2,), (2,))):
            told = result(stage_filling, OLD, NEW, before, now, ring)
            self.assertEqual(told, ((("in", 0, 2), ("in", 1, 0)), (("in", 2, 1),)))
        self.assertEqual(stage_filling(OLD, WRONG, (), (2,), ring), ((("in", 0, 2), ("in", 1, 0)), (("in", 2, 1),)))


class Calls(unittest.TestCase):

    def test_great_nets_take_little_time(self):
        self.assertEqual({(old[0], len(old[1]), len(changed(old, new))) for old, new in GREAT[:12]}, {(6, 16, 4)})
        for old, new in GREAT + [(net, net) for net in (SIX, one_way(6, 4), nearest(*grid(3, 2, 4)))]:
            told = in_time(changed, old, new)[1]
            for before, now in (((), ()), ((), told), (told[:2], told), (told, told)):
                lot = in_time(stage_lot, old, new, before, now)[1]
                self.assertEqual(in_time(stage_filling, old, new, before, now, lot)[0], "returned")

    def test_equal_calls_get_equal_results_also_with_others_between(self):
        calls = []
        for old, new in PAIRS[::4] + [FIVE, (HALL, FORK)]:
            calls += [(changed, (old, new)), (stage_lot, (old, new, (), ())), (stage_lot, (old, new, (), (0,)))]
            calls += [(stage_filling, (old, new, (), (1,), ()))]
        self.assertTrue(steady(calls))

    def test_a_net_that_needs_its_rooms(self):
        for net in led_nets(135, 10):
            told = stage_filling(net, net, (), (), greatest_lot(net))
            self.assertEqual(told[1], ())
            self.assertEqual(len(told[0]), sum(net[1][lane][2] for lane, _ in greatest_lot(net)))
            self.assertEqual({d for k, d in greatest_lot(net)} - set(range(net[0])), set())
            self.assertTrue(all(d in plain_stage_open(net, net, (), (), k) for k, d in greatest_lot(net)))


if __name__ == "__main__":
    unittest.main()
