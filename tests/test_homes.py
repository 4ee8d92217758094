"""E1 to E3, of E5 what speaks of these, and A2 (d)."""

import itertools
import random
import unittest

from roomahead.errors import Unfit
from roomahead.homes import dead_ends, longest, measure, ring, settles, wayless
from roomahead.lots import free, lot_error
from roomahead.moving import done, moves
from roomahead.nets import ahead, net_error, relaned, renamed, serves
from roomahead.stands import empty
from tests.helper import (
    ALONE, BARE, BLIND, DEAD, FORK, HALL, LOST, LOT_NETS, NETS, PAIR, SIX, SIXTEEN, TANGLE, TWO, UNTOLD, WANDER, WHEEL,
    all_stands, downhill_net, fields, great_nets, grown_net, in_time, letters, net_with_entry, plain_ahead, plain_done,
    plain_has_ring, plain_moves, plain_open, plain_ways, random_nets, random_stand, result, small_nets, steady,
)

CHANCE = random.Random(60)
SMALL = LOT_NETS + tuple(small_nets(61, 80)) + tuple(downhill_net(CHANCE, 4, 5) for _ in range(20))
# Houses in a row, lanes both ways between neighbours, several side by side; letters go straight on.
ROW = (
    6,
    tuple((u, u + 1, 1 + u % 2) for u in range(5)) + tuple((u + 1, u, 2) for u in range(5))
    + tuple((u, u + 1, 3) for u in range(5)) + ((1, 0, 4),),
    tuple(
        tuple(
            () if d == u else (u, u + 10) if d > u else (5, 15) if u == 1 else (u + 4,) for d in range(6)
        ) for u in range(6)
    ),
)
GREAT = (SIX, SIXTEEN, ROW) + tuple(great_nets(62, 10)) + tuple(grown_net(CHANCE) for _ in range(6))
GREAT += tuple(downhill_net(CHANCE, 6, 16) for _ in range(6))
ALL_NETS = NETS + SMALL + GREAT + tuple(random_nets(63, 40))
# Free nets in which letters for some aim may go round and round.
ROUNDABOUT = (
    5, ((0, 1, 1), (1, 2, 1), (2, 3, 1), (3, 1, 2), (3, 4, 1), (2, 4, 1)),
    (((), (), (), (), (0,)), ((), (), (), (), (1,)), ((), (), (), (), (2, 5)), ((), (), (), (), (3, 4)), ((),) * 5),
)
GOING_ROUND = (WANDER, ROUNDABOUT) + tuple(net for net in GREAT if free(net) and not settles(net))


def plain_settles(net):
    return free(net) and not any(plain_has_ring(net, aim) for aim in range(net[0]))


SETTLED = tuple(net for net in ALL_NETS if plain_settles(net))
UNSETTLED = tuple(net for net in ALL_NETS if not plain_settles(net))


class Ring(unittest.TestCase):

    def check_ring(self, net, aim, told):
        self.assertEqual(type(told), tuple)
        self.assertGreater(len(told), 1)
        self.assertEqual(len(set(told)), len(told))
        self.assertEqual(told[0], min(told))
        for lane, other in zip(told, told[1:] + told[:1]):
            self.assertIn(other, ahead(net, lane, aim))
            self.assertTrue(serves(net, lane, aim))
            self.assertNotEqual(net[1][lane][1], aim)

    def test_none_exactly_if_there_is_none(self):
        found = {True: 0, False: 0}
        for net in ALL_NETS + GOING_ROUND:
            for aim in range(net[0]):
                told = result(ring, net, aim)
                self.assertIs(told is not None, plain_has_ring(net, aim))
                found[told is None] += 1
                if told is not None:
                    self.check_ring(net, aim, told)
        self.assertGreater(min(found.values()), 100)

    def test_whatever_the_order_of_the_lanes(self):
        chance = random.Random(64)
        for net in GOING_ROUND[:6]:
            for _ in range(12):
                order = tuple(chance.sample(range(len(net[1])), len(net[1])))
                other = relaned(net, order)
                for aim in range(net[0]):
                    told = ring(other, aim)
                    self.assertIs(told is None, ring(net, aim) is None)
                    if told is not None:
                        self.check_ring(other, aim, told)

    def test_by_hand(self):
        self.assertEqual(result(ring, ROUNDABOUT, 4), (1, 2, 3))
        for aim in range(4):
            self.assertIsNone(result(ring, ROUNDABOUT, aim))
        for net in (ALONE, BARE, UNTOLD, PAIR, HALL, TWO, SIXTEEN, DEAD, LOST, ROW):
            for aim in range(net[0]):
                self.assertIsNone(result(ring, net, aim))
        self.assertEqual(result(ring, TANGLE, 2), (0, 3))
        self.assertIsNone(result(ring, TANGLE, 0))

    def test_lanes_that_lead_into_a_ring_are_none_of_it(self):
        # From the house 0 letters for 5 come into the ring of the lanes 3, 1, 2; the lane 0 is not in it.
        net = (
            6, ((0, 1, 1), (2, 3, 1), (3, 1, 1), (1, 2, 1)),
            (((),) * 5 + ((0,),), ((),) * 5 + ((3,),), ((),) * 5 + ((1,),), ((),) * 5 + ((2,),), ((),) * 6, ((),) * 6),
        )
        self.assertEqual(result(ring, net, 5), (1, 2, 3))
        self.assertIsNone(result(ring, net, 4))

    def test_each_aim_has_rings_of_its_own(self):
        # Lanes to and fro, which letters for 2 take for ever, letters for 3 never, though the lanes are the same.
        net = (
            4, ((0, 1, 1), (1, 0, 1), (1, 2, 1), (1, 3, 1)),
            (((), (), (0,), (0,)), ((), (), (1, 2), (3,)), ((), (), (), ()), ((), (), (), ())),
        )
        self.assertEqual([result(ring, net, aim) for aim in range(4)], [None, None, (0, 1), None])
        self.assertEqual([ring(net_with_entry(net, 1, 3, (1, 3)), aim) for aim in (2, 3)], [(0, 1), (0, 1)])

    def test_a_ring_ends_where_a_lane_ends_at_the_aim(self):
        # Round about over three houses: an aim on the ring itself stops it.
        for aim in range(3):
            self.assertIsNone(result(ring, WHEEL, aim))

    def test_a_letter_alone_may_go_round_for_ever(self):
        for net in ALL_NETS + GOING_ROUND:
            for aim in range(net[0]):
                told = ring(net, aim)
                if told is None:
                    continue
                stand = done(net, empty(net), ("in", told[0], aim))
                first = stand
                for lane, other in zip(told, told[1:] + told[:1]):
                    self.assertNotIn(("out", lane), moves(net, stand))
                    stand = done(net, stand, ("on", lane, other))
                self.assertEqual(stand, first)


class DeadEnds(unittest.TestCase):

    def test_all_pairs(self):
        count = 0
        for net in ALL_NETS:
            told = [(k, d) for k in range(len(net[1])) for d in plain_open(net, k) if not plain_ahead(net, k, d)]
            self.assertEqual(repr(result(dead_ends, net)), repr(tuple(sorted(told))))
            for pair in told:
                self.assertIsNone(lot_error(net, (pair,)))
            if free(net):
                self.assertEqual(told, [])
            count += len(told) > 1
        self.assertGreater(count, 20)

    def test_by_hand(self):
        self.assertEqual(result(dead_ends, BLIND), ((1, 0),))
        self.assertEqual(result(dead_ends, LOST), ((0, 2),))
        for net in (ALONE, BARE, UNTOLD, WHEEL, FORK, TANGLE, WANDER, HALL):
            self.assertEqual(repr(result(dead_ends, net)), "()")
        # Three lanes side by side, each with two aims that their end does not know.
        net = (
            4, ((0, 1, 1), (0, 1, 2), (2, 1, 1)),
            (((), (0,), (0, 1), (1,)), ((), (), (), ()), ((2,), (2,), (), (2,)), ((), (), (), ())),
        )
        self.assertEqual(result(dead_ends, net), ((0, 2), (1, 2), (1, 3), (2, 0), (2, 3)))


class Settles(unittest.TestCase):

    def test_free_and_no_aim_has_a_ring(self):
        kinds = {}
        for net in ALL_NETS + GOING_ROUND:
            round_about = any(plain_has_ring(net, aim) for aim in range(net[0]))
            self.assertIs(result(settles, net), free(net) and not round_about)
            kinds[free(net), round_about] = kinds.get((free(net), round_about), 0) + 1
        self.assertEqual(len(kinds), 4)
        self.assertGreater(min(kinds.values()), 3)

    def test_by_hand(self):
        for net in (FORK, PAIR, HALL, TWO, ALONE, BARE, UNTOLD, SIXTEEN, ROW):
            self.assertIs(result(settles, net), True)
        for net in (WHEEL, TANGLE, BLIND, LOST, DEAD, WANDER, ROUNDABOUT):
            self.assertIs(result(settles, net), False)


class Longest(unittest.TestCase):

    def test_against_all_ways(self):
        count = 0
        for net in SETTLED:
            for aim in range(net[0]):
                told = []
                for house in range(net[0]):
                    ways = plain_ways(net, house, aim)
                    self.assertEqual(bool(ways), house == aim or net[2][house][aim] != ())
                    told.append(max(map(len, ways), default=None))
                self.assertEqual(repr(result(longest, net, aim)), repr(tuple(told)))
                count += len(set(told)) > 3
        self.assertGreater(count, 12)

    def test_unfit_if_the_net_does_not_settle(self):
        for net in UNSETTLED + GOING_ROUND:
            for aim in range(net[0]):
                self.assertEqual(fields(Unfit, longest, net, aim), {})

    def test_by_hand(self):
        self.assertEqual(result(longest, ROW, 0), (0, 1, 2, 3, 4, 5))
        self.assertEqual(result(longest, ROW, 2), (2, 1, 0, 1, 2, 3))
        self.assertEqual(repr(result(longest, UNTOLD, 1)), "(None, 0, None)")
        self.assertEqual(repr(result(longest, BARE, 0)), "(0, None)")
        self.assertEqual(result(longest, ALONE, 0), (0,))

    def test_the_longest_of_unlike_ways(self):
        # From 0 one lane leads to 3 at once, another one over 1 and 2.
        net = (
            4, ((0, 3, 1), (0, 1, 1), (1, 2, 1), (2, 3, 1), (1, 3, 1)),
            (((), (), (), (0, 1)), ((), (), (), (2, 4)), ((), (), (), (3,)), ((), (), (), ())),
        )
        self.assertEqual(result(longest, net, 3), (3, 2, 1, 0))
        self.assertEqual(result(longest, net_with_entry(net, 1, 3, (4,)), 3), (2, 1, 1, 0))
        self.assertEqual(result(longest, net_with_entry(net, 0, 3, (0,)), 3), (1, 2, 1, 0))
        self.assertEqual(result(longest, net_with_entry(net, 0, 3, ()), 3), (None, 2, 1, 0))

    def test_lanes_with_the_longest_way_not_standing_last(self):
        net = (
            4, ((1, 2, 1), (2, 3, 1), (0, 1, 1), (0, 3, 1)),
            (((), (), (), (2, 3)), ((), (), (), (0,)), ((), (), (), (1,)), ((), (), (), ())),
        )
        self.assertEqual(result(longest, net, 3), (3, 2, 1, 0))


class Measure(unittest.TestCase):

    def test_the_sum_over_all_letters(self):
        chance = random.Random(65)
        for net in SETTLED:
            for stand in [empty(net)] + [random_stand(chance, net) for _ in range(4)]:
                told = 0
                for lane, lying in enumerate(stand):
                    for aim in lying:
                        told += 1 + max(len(way) for way in plain_ways(net, net[1][lane][1], aim))
                self.assertEqual(repr(result(measure, net, stand)), repr(told))

    def test_the_empty_stand(self):
        for net in SETTLED:
            self.assertEqual(repr(result(measure, net, empty(net))), "0")

    def test_unfit_if_the_net_does_not_settle(self):
        chance = random.Random(66)
        for net in UNSETTLED + GOING_ROUND:
            for stand in (empty(net), random_stand(chance, net)):
                self.assertEqual(fields(Unfit, measure, net, stand), {})

    def test_full_lanes(self):
        self.assertEqual(result(measure, PAIR, ((1,), (0, 0))), 3)
        self.assertEqual(result(measure, SIXTEEN, ((1,) * 4,) * 10 + ((0,) * 3,) * 6), 58)
        self.assertEqual(result(measure, HALL, ((2,), (), (2, 2), (0, 1))), 2 + 1 + 1 + 2 + 1)

    def test_it_falls_with_each_move_and_what_is_left_is_the_empty_net(self):
        chance = random.Random(67)
        for net in SETTLED:
            for _ in range(3):
                stand = random_stand(chance, net)
                left = measure(net, stand)
                while True:
                    going = plain_moves(net, stand)
                    if not going:
                        break
                    stand = chance.choice(going)[1]
                    self.assertLess(measure(net, stand), left)
                    left = measure(net, stand)
                self.assertEqual((stand, left), (empty(net), 0))

    def test_no_row_of_moves_is_longer(self):
        for net in SETTLED:
            if len(net[1]) > 4 or net == HALL:
                continue
            most = {}
            for stand in sorted(all_stands(net)[:150], key=letters):
                self.assertLessEqual(self.most_moves(net, stand, most), measure(net, stand))
            self.assertLessEqual(most.get(empty(net), 0), 0)

    def most_moves(self, net, stand, most):
        if stand not in most:
            most[stand] = max((1 + self.most_moves(net, behind, most) for _, behind in plain_moves(net, stand)), default=0)
        return most[stand]

    def test_a_letter_comes_over_as_many_lanes_as_longest_tells_at_most(self):
        chance = random.Random(68)
        for net in SETTLED:
            for u, d in itertools.product(range(net[0]), repeat=2):
                if net[2][u][d] == ():
                    continue
                lane, lanes = chance.choice(net[2][u][d]), 1
                stand = plain_done(net, empty(net), ("in", lane, d))
                while stand != empty(net):
                    deed, stand = chance.choice(plain_moves(net, stand))
                    lanes += deed[0] == "on"
                self.assertLessEqual(lanes, longest(net, d)[u])


class Wayless(unittest.TestCase):

    def test_against_a_search(self):
        kinds = set()
        for net in ALL_NETS + GOING_ROUND:
            told = []
            for house, aim in itertools.permutations(range(net[0]), 2):
                met = list(net[2][house][aim])
                for lane in met:
                    met += [other for other in plain_ahead(net, lane, aim) if other not in met]
                if not any(net[1][lane][1] == aim for lane in met):
                    told.append((house, aim))
            self.assertEqual(repr(result(wayless, net)), repr(tuple(told)))
            bare = [(u, d) for u, d in itertools.permutations(range(net[0]), 2) if net[2][u][d] == ()]
            self.assertLessEqual(set(bare), set(told))
            if free(net):
                self.assertEqual(bare, told)
            kinds.add((free(net), bare == told))
        self.assertEqual(kinds, {(True, True), (False, True), (False, False)})

    def test_by_hand(self):
        self.assertEqual(result(wayless, ALONE), ())
        self.assertEqual(result(wayless, BARE), ((0, 1), (1, 0)))
        self.assertEqual(result(wayless, ROW), ())
        self.assertEqual(result(wayless, LOST), ((0, 1), (0, 2), (1, 0), (1, 2), (2, 0), (2, 1)))
        self.assertEqual(result(wayless, BLIND), ((1, 0), (2, 0), (2, 1)))

    def test_letters_that_go_round_and_never_come_there(self):
        # The tables for 2 have the lanes to and fro alone; so no way of 2 leads from 0 or 1.
        net = (3, WANDER[1], (((), (), (0,)), ((), (), (1,)), ((), (), ())))
        self.assertEqual(result(wayless, net), ((0, 1), (0, 2), (1, 0), (1, 2), (2, 0), (2, 1)))
        self.assertIs(free(net), False)

    def test_a_long_way_whatever_the_names_of_the_houses(self):
        for order in itertools.permutations(range(6)):
            if order[0] < 2:
                self.assertEqual(wayless(renamed(ROW, order)), ())


class Calls(unittest.TestCase):

    def test_the_nets_are_nets(self):
        for net in ALL_NETS + GOING_ROUND:
            self.assertIsNone(net_error(net))
        self.assertGreater(len([net for net in SETTLED if len(net[1]) == 16]), 5)
        self.assertGreater(len(GOING_ROUND), 4)

    def test_great_nets_take_little_time(self):
        chance = random.Random(69)
        for net in GREAT:
            for function in (dead_ends, settles, wayless):
                self.assertEqual(in_time(function, net)[0], "returned")
            for aim in range(net[0]):
                self.assertEqual(in_time(ring, net, aim)[0], "returned")
                self.assertEqual(in_time(longest, net, aim)[0] == "returned", settles(net))
            stand = random_stand(chance, net)
            self.assertEqual(in_time(measure, net, stand)[0] == "returned", settles(net))

    def test_equal_calls_get_equal_results_also_with_others_between(self):
        calls = []
        for net in ALL_NETS[:60] + GREAT:
            calls += [(function, (net,)) for function in (dead_ends, settles, wayless)]
            calls += [(function, (net, aim)) for function in (ring, longest) for aim in range(net[0])]
            calls.append((measure, (net, empty(net))))
        self.assertTrue(steady(calls))


if __name__ == "__main__":
    unittest.main()
