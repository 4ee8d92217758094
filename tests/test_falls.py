"""G5, and G6 so far as it speaks of it."""

import itertools
import random
import unittest

from roomahead.choices import widest
from roomahead.errors import Unfit
from roomahead.falls import risky, without
from roomahead.lots import free
from roomahead.makers import circle, grid, one_way, up_down
from roomahead.nets import net_error
from tests.helper import (
    ALONE, BARE, FORK, HALL, LOT_NETS, NETS, PAIR, SIX, SIXTEEN, TWO, UNTOLD, WHEEL, downhill_net, fields, great_nets,
    grown_net, in_time, plain_waves, random_nets, result, small_nets, steady,
)

CHANCE = random.Random(100)
THREE = up_down(*circle(3, 1), 0)
SQUARE = up_down(*grid(2, 2, 1), 0)
SMALL = LOT_NETS + (THREE, widest(THREE), SQUARE, widest(SQUARE), one_way(3, 1), widest(one_way(3, 1)))
SMALL += tuple(small_nets(101, 60, 3, 7))
GREAT = (SIX, SIXTEEN, up_down(*grid(3, 2, 1), 1), widest(up_down(*grid(3, 2, 1), 1))) + tuple(great_nets(102, 4))
GREAT += tuple(grown_net(CHANCE) for _ in range(8)) + tuple(downhill_net(CHANCE, 6, 16) for _ in range(3))
ALL_NETS = NETS + SMALL + GREAT + tuple(random_nets(103, 20))


def plain_without(net, gone):
    return (*net[:2], tuple(tuple(tuple(k for k in entry if k not in gone) for entry in table) for table in net[2]))


def empties(net):
    return {(u, d) for u, d in itertools.product(range(net[0]), repeat=2) if net[2][u][d] == ()}


class Without(unittest.TestCase):

    def check(self, net, gone):
        told = result(without, net, gone)
        self.assertEqual(repr(told), repr(plain_without(net, gone)))
        self.assertIsNone(net_error(told))
        self.assertIs(told[1] == net[1] and told[0] == net[0], True)

    def test_all_parts_of_few_lanes(self):
        for net in SMALL[:24]:
            lanes = range(len(net[1]))
            for many in range(len(lanes) + 1):
                for gone in itertools.combinations(lanes, many):
                    self.check(net, gone)

    def test_some_lanes_of_great_nets(self):
        chance = random.Random(104)
        for net in ALL_NETS:
            for _ in range(6):
                lanes = range(len(net[1]))
                self.check(net, tuple(sorted(chance.sample(lanes, chance.randint(0, len(lanes))))))

    def test_none_and_all(self):
        for net in ALL_NETS:
            self.assertEqual(repr(result(without, net, ())), repr(net))
            told = result(without, net, tuple(range(len(net[1]))))
            self.assertEqual(told, (*net[:2], (((),) * net[0],) * net[0]))
            self.assertIs(free(told), True)

    def test_by_hand(self):
        self.assertEqual(result(without, ALONE, ()), ALONE)
        self.assertEqual(result(without, PAIR, (0,))[2], (((), ()), ((1,), ())))
        self.assertEqual(result(without, TWO, (0,))[2], (((), (1,)), ((2,), ())))
        self.assertEqual(result(without, TWO, (0, 1))[2], (((), ()), ((2,), ())))


class Risky(unittest.TestCase):

    def test_each_lane_alone(self):
        kinds = {}
        for net in ALL_NETS:
            if 0 in plain_waves(net):
                self.assertEqual(fields(Unfit, risky, net), {})
                continue
            told = []
            for lane in range(len(net[1])):
                left = plain_without(net, (lane,))
                kind = (empties(left) == empties(net), 0 not in plain_waves(left))
                kinds[kind] = kinds.get(kind, 0) + 1
                if kind == (True, False):
                    told.append(lane)
            self.assertEqual(repr(result(risky, net)), repr(tuple(told)))
        # Tables that get empty and such that don't, each with a net that is free then, and with one that is not.
        self.assertEqual(len(kinds), 4)
        self.assertGreater(min(kinds.values()), 10)

    def test_if_no_lane_is_risky(self):
        for net in ALL_NETS:
            if free(net) and risky(net) == ():
                for lane in range(len(net[1])):
                    left = without(net, (lane,))
                    self.assertTrue(free(left) or empties(left) != empties(net))

    def test_where_a_table_gets_empty_and_where_it_does_not(self):
        # Without the lane 1 no lane is left at 1 for 2: a dead end, but a table got empty.
        net = (3, ((0, 1, 1), (1, 2, 1), (1, 0, 1)), (((), (), (0,)), ((), (), (1,)), ((), (), ())))
        self.assertEqual(repr(result(risky, net)), "()")
        # The lane 2 back to 0 is left there now: letters for 2 go to and fro.
        net = (3, net[1], (((), (), (0,)), ((), (), (1, 2)), ((), (), ())))
        self.assertEqual(result(risky, net), (1,))
        # The same, but without the lane 1 the table of 1 for 3 gets empty, too: so it is not risky.
        net = (
            4, ((0, 1, 1), (1, 2, 1), (1, 0, 1), (2, 3, 1)),
            (((), (), (0,), ()), ((), (), (1, 2), (1,)), ((), (), (), (3,)), ((),) * 4),
        )
        self.assertEqual(repr(result(risky, net)), "()")

    def test_tables_that_are_empty_from_the_beginning_do_not_count(self):
        self.assertEqual(result(risky, widest(THREE)), (3, 4))
        bare = widest(THREE)
        net = (4, bare[1], tuple(table + ((),) for table in bare[2]) + (((),) * 4,))
        self.assertEqual(result(risky, net), (3, 4))

    def test_by_hand(self):
        for net in (ALONE, BARE, UNTOLD, PAIR, FORK, HALL, TWO, SIXTEEN, THREE):
            self.assertEqual(repr(result(risky, net)), "()")
        self.assertEqual(fields(Unfit, risky, WHEEL), {})


class Calls(unittest.TestCase):

    def test_great_nets_take_little_time(self):
        for net in GREAT:
            self.assertEqual(in_time(risky, net)[0] == "returned", free(net))
            self.assertEqual(in_time(without, net, (0, 5, 15))[0], "returned")

    def test_equal_calls_get_equal_results_also_with_others_between(self):
        calls = []
        for net in ALL_NETS[:60]:
            lanes = tuple(range(len(net[1])))
            calls += [(risky, (net,)), (without, (net, lanes[::2])), (without, (net, lanes[1:2]))]
        self.assertTrue(steady(calls))


if __name__ == "__main__":
    unittest.main()
