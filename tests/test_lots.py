"""C1 to C3, C5, and A2 (a), (b) so far as it speaks of lots."""

import itertools
import random
import unittest

from roomahead.lots import filling, free, greatest_lot, joined, lot_error, waves
from roomahead.moving import deed_error, held_fast, led, moves, open_deeds, stuck
from roomahead.nets import net_error, relaned, renamed
from roomahead.stands import empty
from tests.helper import (
    ALONE, BARE, BLIND, DEAD, FORK, HALL, LOST, LOT_NETS, NETS, PAIR, SIX, SIXTEEN, TANGLE, UNTOLD, WANDER, WHEEL,
    WRONG_VALUES, all_stands, downhill_net, great_nets, grown_net, in_time, letters, net_with_entry, plain_ahead,
    plain_done, plain_lot_error, plain_lots, plain_open, plain_stuck, plain_waves, random_nets, result, small_nets,
    steady,
)

CHANCE = random.Random(30)
SMALL = LOT_NETS + tuple(small_nets(31, 120))
GREAT = (SIX, SIXTEEN) + tuple(great_nets(32, 12)) + tuple(grown_net(CHANCE) for _ in range(4))
GREAT += tuple(downhill_net(CHANCE, 6, 16) for _ in range(4))
ALL_NETS = NETS + SMALL + GREAT + tuple(random_nets(33, 40))
LOTS = [(net, lot) for net in SMALL for lot in plain_lots(net)[:12]]
# No table of fewer than two lanes here; each letter has a choice, and yet all may wait.
SQUARE = (
    4, ((0, 1, 1), (1, 0, 1), (0, 2, 1), (2, 0, 1), (1, 3, 1), (3, 1, 1), (2, 3, 1), (3, 2, 1)),
    (((), (0,), (2,), (0, 2)), ((1,), (), (1, 4), (4,)), ((3,), (3, 6), (), (6,)), ((5, 7), (5,), (7,), ())),
)


def small_stands(net, most=3000):
    """All stands of the net, [] if there are too many."""
    many = 1
    for k, (_, _, room) in enumerate(net[1]):
        served = sum(k in entry for table in net[2] for entry in table)
        many *= sum(served ** lying for lying in range(room + 1))
    return all_stands(net) if many <= most else []


def without_rooms(net, room=1):
    return (net[0], tuple((start, end, room) for start, end, _ in net[1]), net[2])


class Waves(unittest.TestCase):

    def check(self, net, told):
        self.assertEqual(repr(result(waves, net)), repr(told))
        self.assertIs(result(free, net), 0 not in told)

    def test_against_the_striking_out_as_it_is_told(self):
        met = set()
        for net in ALL_NETS:
            self.assertIsNone(net_error(net))
            self.check(net, plain_waves(net))
            met |= set(plain_waves(net))
        self.assertGreater(max(met), 4)

    def test_free_exactly_if_there_is_no_lot(self):
        for net in SMALL:
            self.assertIs(free(net), plain_lots(net) == [])
        self.assertEqual({free(net) for net in SMALL}, {True, False})

    def test_by_hand(self):
        self.check(ALONE, ())
        self.check(BARE, ())
        self.check(UNTOLD, (1, 1))
        self.check(HALL, (2, 1, 1, 2))
        self.check(DEAD, (0,))
        self.check(BLIND, (0, 0))
        self.check(TANGLE, (0, 0, 0, 0))
        self.check(WANDER, (2, 3, 1))
        self.check(SIXTEEN, (1,) * 16)
        self.check(SQUARE, (0,) * 8)

    def test_lanes_side_by_side(self):
        # The lane 1 leads on to a dead end, the lane 0 doesn't: a choice between them, the better one is enough.
        net = (
            4, ((0, 1, 1), (1, 2, 1), (1, 3, 1)),
            (((), (), (0,), ()), ((), (), (1, 2), ()), ((), (), (), ()), ((), (), (), ())),
        )
        self.check(net, (2, 1, 0))
        self.check(net_with_entry(net, 1, 2, (1,)), (2, 1, 1))
        self.check(net_with_entry(net, 1, 2, (2,)), (0, 1, 0))

    def test_each_open_aim_needs_a_lane(self):
        # Behind the lane 0 letters for 2 can go on, letters for 3 only once their table tells a lane.
        net = (
            4, ((0, 1, 1), (1, 2, 1), (1, 3, 1)),
            (((), (0,), (0,), (0,)), ((), (), (1,), ()), ((), (), (), ()), ((), (), (), ())),
        )
        self.check(net, (0, 1, 1))
        self.check(net_with_entry(net, 1, 3, (2,)), (2, 1, 1))

    def test_lanes_struck_out_in_one_wave_do_not_help_one_another_in_it(self):
        # A row of houses: from each letters go to the next ones; the lane that ends last goes first.
        for houses in range(2, 7):
            lanes = tuple((u, u + 1, 1) for u in range(houses - 1))
            tables = tuple(tuple((u,) if d > u else () for d in range(houses)) for u in range(houses))
            self.check((houses, lanes, tables), tuple(range(houses - 1, 0, -1)))

    def test_rooms_do_not_matter(self):
        for net in ALL_NETS:
            for room in (1, 4):
                self.assertEqual(waves(without_rooms(net, room)), waves(net))

    def test_names_do_not_matter(self):
        chance = random.Random(34)
        for net in ALL_NETS:
            order = tuple(chance.sample(range(net[0]), net[0]))
            self.assertEqual(waves(renamed(net, order)), waves(net))
            row = tuple(chance.sample(range(len(net[1])), len(net[1])))
            self.assertEqual(waves(relaned(net, row)), tuple(waves(net)[k] for k in row))

    def test_where_each_table_has_one_lane_at_most(self):
        # Then net is free exactly if no row of open aims ends, or goes round.
        found = set()
        for net in ALL_NETS:
            tables = tuple(tuple(entry[:1] for entry in table) for table in net[2])
            single = (*net[:2], tables)
            follows = {}
            for k in range(len(net[1])):
                for aim in plain_open(single, k):
                    behind = plain_ahead(single, k, aim)
                    follows[k, aim] = [(other, d) for other in behind for d in plain_open(single, other)]
                    follows[k, aim] = follows[k, aim] if behind else [(k, aim)]
            while any(not behind for behind in follows.values()):
                done = {pair for pair, behind in follows.items() if not behind}
                follows = {
                    pair: [other for other in behind if other not in done]
                    for pair, behind in follows.items() if pair not in done
                }
            self.assertIs(free(single), not follows, single)
            found.add(not follows)
        self.assertEqual(found, {True, False})


class LotError(unittest.TestCase):

    def check(self, net, value, told):
        self.assertEqual(repr(result(lot_error, net, value)), repr(told), (net, value))

    def test_lots_have_no_error(self):
        for net, lot in LOTS:
            self.check(net, lot, None)

    def test_all_small_values(self):
        for net in (WHEEL, TANGLE, LOST, DEAD, BLIND, PAIR, WANDER, FORK):
            items = list(itertools.product(range(-1, len(net[1]) + 1), range(-1, net[0] + 1)))
            for many in range(3):
                for value in itertools.product(items, repeat=many):
                    told = lot_error(net, value)
                    self.assertEqual(repr(told), repr(plain_lot_error(net, value)), (net, value))

    def test_exactly_the_lots_have_none(self):
        for net in SMALL[:60]:
            pairs = [(k, aim) for k in range(len(net[1])) for aim in range(net[0])]
            lots = set(plain_lots(net))
            for many in range(4):
                for value in itertools.islice(itertools.combinations(pairs, many), 600):
                    self.assertEqual(lot_error(net, value) is None, value in lots, (net, value))

    def test_parts_of_greatest_lots(self):
        chance = random.Random(35)
        told = set()
        for net in GREAT:
            pairs = [(k, aim) for k in range(len(net[1])) for aim in plain_open(net, k)]
            for _ in range(60):
                part = sorted(chance.sample(pairs, min(len(pairs), chance.randint(1, 12))))
                value = tuple(pair for i, pair in enumerate(part) if pair[0] not in [one[0] for one in part[:i]])
                wanted = plain_lot_error(net, value)
                self.check(net, value, wanted)
                told.add(wanted and wanted[0])
            whole = greatest_lot(net)
            for place in range(len(whole)):
                value = whole[:place] + whole[place + 1:]
                self.check(net, value, plain_lot_error(net, value))
        self.assertIn("open", told)

    def test_form(self):
        lot = ((0, 2), (1, 0), (2, 1))
        for value in (
            (), [], list(lot), [list(pair) for pair in lot], tuple(list(pair) for pair in lot), dict(lot), {}, None,
            "", "lot", 0, True, (0, 2), ((0, 2), 1), ((0, 2), (1, 0), (2, 1), ()), ((0, 2, 1),), ((0,),), ((),),
            ((0, 2), (1, 0, 2), (2, 1)), ((0, 2), (1,), (2, 1)), ((0, 2), [1, 0], (2, 1)), (("0", "2"),),
            ((0, 2), (0, 2)), ((0, 1), (0, 2)), ((0, 2), (0, 1)), ((1, 0), (0, 2), (2, 1)), ((0, 2), (2, 1), (1, 0)),
            (lot,), ((lot,),), (lot[0], lot),
        ):
            self.check(WHEEL, value, "form")

    def test_what_is_no_integer(self):
        for odd in (True, False, None, "0", "1", "", (), (0,), [], [0], {}, {0: 1}):
            self.check(WHEEL, ((odd, 2), (1, 0), (2, 1)), "form")
            self.check(WHEEL, ((0, odd), (1, 0), (2, 1)), "form")
            self.check(WHEEL, ((0, 2), (1, 0), (odd, 1)), "form")
            self.check(WHEEL, ((0, 2), (1, 0), (2, odd)), "form")
        # Each of them would be a lot, or a pair that is wrong, were True and False integers.
        self.check(WHEEL, ((False, 2), (True, 0), (2, True)), "form")
        self.check(LOST, ((False, 2),), "form")
        self.check(DEAD, ((False, True),), "form")

    def test_any_value(self):
        for net in (ALONE, BARE, WHEEL, LOST, SIX):
            for value in WRONG_VALUES:
                self.check(net, value, plain_lot_error(net, value))
                for other in ((value,), (value, value), ((value, value),), ((0, 2), value), ((0, value), (1, value))):
                    self.check(net, other, plain_lot_error(net, other))

    def test_pair(self):
        huge = 10 ** 399
        for lane in (3, 4, 16, huge):
            self.check(WHEEL, ((0, 2), (1, 0), (lane, 1)), ("pair", 2))
            self.check(WHEEL, ((lane, 1),), ("pair", 0))
        for lane in (-1, -2, -3, -huge):
            self.check(WHEEL, ((lane, 1),), ("pair", 0))
            self.check(WHEEL, ((lane, 2), (0, 2), (1, 0), (2, 1)), ("pair", 0))
        for aim in (0, 1, 3, -1, -2, -3, huge, -huge):
            self.check(WHEEL, ((0, aim), (1, 0), (2, 1)), ("pair", 0))
        for aim in (1, 2, 3, -1, -3, huge, -huge):
            self.check(WHEEL, ((0, 2), (1, aim), (2, 1)), ("pair", 1))
        for net in (ALONE, BARE, UNTOLD):
            for value in (((0, 0),), ((0, 1), (1, 0)), ((-1, 0),), ((0, 2), (1, 2))):
                self.check(net, value, ("pair", 0))

    def test_open(self):
        self.check(WHEEL, ((0, 2),), ("open", 0))
        self.check(WHEEL, ((1, 0), (2, 1)), ("open", 1))
        self.check(WHEEL, ((0, 2), (2, 1)), ("open", 0))
        self.check(TANGLE, ((0, 2), (1, 0), (3, 2)), ("open", 1))
        self.check(TANGLE, ((0, 2), (1, 0), (2, 1)), ("open", 0))
        self.check(SQUARE, ((0, 3), (4, 2), (7, 0)), ("open", 2))
        self.check(SQUARE, ((0, 3), (4, 2), (7, 0), (3, 1)), "form")
        self.check(SQUARE, ((0, 3), (3, 1), (4, 2), (7, 0)), None)

    def test_all_lanes_ahead_are_asked_for(self):
        # The table of the house 1 tells the lanes 1 and 2 for 2; one of them in the lot is not enough.
        net = (
            3, ((0, 1, 1), (1, 0, 1), (1, 0, 1)),
            (((), (), (0,)), ((), (), (1, 2)), ((), (), ())),
        )
        self.check(net, ((0, 2), (1, 2)), ("open", 0))
        self.check(net, ((0, 2), (2, 2)), ("open", 0))
        self.check(net, ((0, 2), (1, 2), (2, 2)), None)
        self.check(net, ((1, 2), (2, 2)), ("open", 0))

    def test_the_first_error_told_is_due(self):
        # An open lane stands at the first place, a wrong pair behind it, and what is no pair behind both.
        self.check(WHEEL, ((0, 2), (2, 1)), ("open", 0))
        self.check(WHEEL, ((0, 2), (2, 2)), ("pair", 1))
        self.check(WHEEL, ((0, 2), (2, 0), (3, 3)), ("pair", 1))
        self.check(WHEEL, ((0, 1), (2, 2)), ("pair", 0))
        self.check(WHEEL, ((0, 2), (2, 2), (1, 0)), "form")
        self.check(WHEEL, ((0, 2), (2, 2), None), "form")
        self.check(WHEEL, ((0, 2), (9, 9), (10 ** 399, True)), "form")
        self.check(WHEEL, ((-1, 9), (0, 2), (0, 2)), "form")
        self.check(WHEEL, ((0, 2), (2, 1), (3, 1)), ("pair", 2))

    def test_the_first_place_is_told(self):
        for one, two in itertools.combinations(range(4), 2):
            value = [(0, 3), (3, 1), (4, 2), (7, 0)]
            value[one], value[two] = (value[one][0], 9), (value[two][0], -1)
            self.check(SQUARE, tuple(value), ("pair", one))
        self.check(SQUARE, ((0, 3), (4, 2)), ("open", 1))
        self.check(SQUARE, ((0, 3), (3, 1)), ("open", 0))

    def test_a_lane_that_serves_an_aim_at_its_end_only(self):
        self.check(PAIR, ((0, 1),), ("pair", 0))
        self.check(PAIR, ((0, 0),), ("pair", 0))
        self.check(PAIR, ((0, 1), (1, 0)), ("pair", 0))


class GreatestLot(unittest.TestCase):

    def test_against_all_closed_parts(self):
        kinds = set()
        for net in SMALL:
            lots = plain_lots(net)
            lanes = sorted({lane for lot in lots for lane, _ in lot})
            told = result(greatest_lot, net)
            self.assertEqual([lane for lane, _ in told], lanes)
            for lane, aim in told:
                held = [d for d in plain_open(net, lane) if set(plain_ahead(net, lane, d)) <= set(lanes)]
                self.assertEqual(repr(aim), repr(min(held)))
            self.assertEqual(told in lots, bool(lots))
            self.assertEqual(repr(told), repr(max(lots, key=lambda lot: (len(lot), [-d for _, d in lot]), default=())))
            kinds.add(len(told))
        self.assertGreater(len(kinds), 4)

    def test_all_lanes_never_struck_out(self):
        for net in ALL_NETS:
            told = result(greatest_lot, net)
            self.assertEqual([lane for lane, _ in told], [k for k, wave in enumerate(plain_waves(net)) if wave == 0])
            self.assertEqual(told == (), free(net))
            if told:
                self.assertIsNone(lot_error(net, told))

    def test_the_least_open_aim_is_told(self):
        # A letter for 0 has a way out of the lane 0, letters for 2 and 3 have none.
        net = (
            4, ((1, 2, 1), (2, 1, 1), (2, 0, 1)),
            (((), (), (), ()), ((0,), (), (0,), (0,)), ((2,), (1,), (), (1,)), ((), (), (), ())),
        )
        self.assertEqual(result(greatest_lot, net), ((0, 3), (1, 3)))
        self.assertEqual(result(greatest_lot, net_with_entry(net, 2, 0, (1,))), ((0, 0), (1, 0)))
        self.assertEqual(result(greatest_lot, net_with_entry(net, 2, 0, (1, 2))), ((0, 3), (1, 0)))

    def test_by_hand(self):
        self.assertEqual(result(greatest_lot, BLIND), ((0, 2), (1, 0)))
        self.assertEqual(result(greatest_lot, DEAD), ((0, 2),))
        for net in (ALONE, BARE, UNTOLD, HALL, WANDER, SIXTEEN):
            self.assertEqual(repr(result(greatest_lot, net)), "()")


class Joined(unittest.TestCase):

    def test_all_pairs_of_lots(self):
        count = 0
        for net in SMALL:
            all_of_them = plain_lots(net)
            lots = all_of_them[:14]
            for one, other in itertools.product(lots, repeat=2):
                told = result(joined, one, other)
                lanes = sorted({lane for lane, _ in one + other})
                self.assertEqual(list(told), [(k, min(d for lane, d in one + other if lane == k)) for k in lanes])
                self.assertIn(told, all_of_them)
                self.assertIsNone(lot_error(net, told))
                self.assertEqual(told, joined(other, one))
                count += dict(one) != dict(other)
            if lots:
                whole = greatest_lot(net)
                self.assertEqual(lanes_of(joined(whole, lots[-1])), lanes_of(whole))
        self.assertGreater(count, 500)

    def test_by_hand(self):
        self.assertEqual(result(joined, ((2, 4),), ((0, 3),)), ((0, 3), (2, 4)))
        self.assertEqual(result(joined, ((1, 2),), ((1, 0),)), ((1, 0),))
        self.assertEqual(result(joined, ((1, 0),), ((1, 2),)), ((1, 0),))
        self.assertEqual(result(joined, ((0, 1), (2, 5)), ((0, 4), (1, 3), (2, 0))), ((0, 1), (1, 3), (2, 0)))


def lanes_of(lot):
    return [lane for lane, _ in lot]


class Filling(unittest.TestCase):

    def test_as_often_as_the_room_of_the_lane(self):
        for net, lot in LOTS:
            row = []
            for lane, aim in lot:
                row += [("in", lane, aim)] * net[1][lane][2]
            self.assertEqual(repr(result(filling, net, lot)), repr(tuple(row)))

    def test_the_stand_behind_it_is_stuck_and_held_fast(self):
        chance = random.Random(36)
        lots = LOTS + [(net, greatest_lot(net)) for net in ALL_NETS if greatest_lot(net)]
        for net, lot in lots:
            stand = led(net, empty(net), result(filling, net, lot))
            self.assertTrue(plain_stuck(net, stand))
            self.assertTrue(stuck(net, stand) and held_fast(net, stand))
            for lane, aim in lot:
                self.assertEqual(stand[lane], (aim,) * net[1][lane][2])
            # For good: whatever goes on elsewhere, what fills the lot stays.
            for _ in range(12):
                going = open_deeds(net, stand)
                if going:
                    stand = plain_done(net, stand, chance.choice(going))
                self.assertEqual([stand[lane] for lane, _ in lot], [(aim,) * net[1][lane][2] for lane, aim in lot])

    def test_rooms_of_one_to_four(self):
        for room in range(1, 5):
            net = (3, ((0, 1, room),), LOST[2])
            self.assertEqual(result(filling, net, ((0, 2),)), (("in", 0, 2),) * room)
        self.assertEqual(
            result(filling, TANGLE, ((0, 2), (3, 2))), (("in", 0, 2),) * 3 + (("in", 3, 2),) * 2,
        )


class Main(unittest.TestCase):

    def test_a_stuck_stand_exactly_if_there_is_a_lot(self):
        found = {True: 0, False: 0}
        for net in SMALL:
            stands = small_stands(net)
            if not stands:
                continue
            some = any(stuck(net, stand) for stand in stands)
            self.assertIs(some, not free(net))
            self.assertIs(some, bool(plain_lots(net)))
            found[some] += 1
        self.assertGreater(min(found.values()), 20)

    def test_it_can_be_come_to_by_deeds_from_the_empty_net(self):
        for net in SMALL[:50]:
            stands = small_stands(net, 200)
            if not stands:
                continue
            met, queue = {empty(net)}, [empty(net)]
            for stand in queue:
                for deed in open_deeds(net, stand):
                    behind = plain_done(net, stand, deed)
                    if behind not in met:
                        met.add(behind)
                        queue.append(behind)
            self.assertEqual(met, set(stands))

    def test_the_lanes_of_a_stuck_stand_are_a_lot_with_their_first_letters(self):
        count = 0
        for net in SMALL:
            for stand in small_stands(net, 1000):
                if letters(stand) > 0 and moves(net, stand) == ():
                    lot = tuple((lane, lying[0]) for lane, lying in enumerate(stand) if lying)
                    self.assertIsNone(lot_error(net, lot))
                    count += 1
        self.assertGreater(count, 1000)

    def test_the_lots_of_a_net_are_within_its_greatest_one(self):
        for net, lot in LOTS:
            self.assertLessEqual(set(lanes_of(lot)), set(lanes_of(greatest_lot(net))))

    def test_a_lot_of_one_lane_is_a_dead_end(self):
        for net, lot in LOTS:
            if len(lot) == 1:
                self.assertEqual(plain_ahead(net, *lot[0]), ())

    def test_a_free_net_has_no_dead_end(self):
        for net in ALL_NETS:
            ends = [(k, aim) for k in range(len(net[1])) for aim in plain_open(net, k) if not plain_ahead(net, k, aim)]
            self.assertFalse(ends and free(net))
            for pair in ends:
                self.assertIsNone(lot_error(net, (pair,)))


class Calls(unittest.TestCase):

    def test_great_nets_take_little_time(self):
        for net in GREAT:
            self.assertEqual((net[0] in (2, 6), len(net[1])), (True, 16))
            for function in (free, waves, greatest_lot):
                self.assertEqual(in_time(function, net)[0], "returned")
            self.assertEqual(in_time(lot_error, net, greatest_lot(net))[0], "returned")
            self.assertEqual(in_time(filling, net, greatest_lot(net))[0], "returned")

    def test_equal_calls_get_equal_results_also_with_others_between(self):
        calls = [(function, (net,)) for net in ALL_NETS[:60] for function in (free, waves, greatest_lot)]
        calls += [(lot_error, (net, lot)) for net in SMALL[:12] for _, lot in LOTS[:20]]
        calls += [(filling, pair) for pair in LOTS[:60]]
        calls += [(joined, (one, other)) for one, other in itertools.product(plain_lots(TANGLE), repeat=2)]
        self.assertTrue(steady(calls))


if __name__ == "__main__":
    unittest.main()
