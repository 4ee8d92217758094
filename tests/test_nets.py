"""A4 to A7, and A9 so far as it speaks of nets; A3 by way of helper.asked."""

import itertools
import random
import unittest

from roomahead.nets import ahead, aims, net_error, relaned, renamed, serves
from tests.helper import (
    ALONE, BARE, HALL, NETS, SIX, SIXTEEN, SMALL_NETS, WHEEL, WRONG_VALUES, asked, net_with_entry, plain_aims,
    random_net, random_nets, result,
)

HUGE = 10 ** 399
ALL_NETS = NETS + tuple(random_nets(1, 60))


def with_lane(lane, at=0):
    """HALL with another value for one of its lanes."""
    return (3, HALL[1][:at] + (lane,) + HALL[1][at + 1:], HALL[2])


def with_entry(entry, house=1, aim=0, net=HALL):
    """The net with another value for one entry of its tables."""
    return net_with_entry(net, house, aim, entry)


class NetError(unittest.TestCase):

    def check(self, value, told):
        self.assertEqual(repr(result(net_error, value)), repr(told), value)

    def test_nets_have_no_error(self):
        for net in ALL_NETS:
            self.check(net, None)

    def test_form(self):
        for value in WRONG_VALUES + (HALL[:2], HALL + ((),), list(HALL), dict(enumerate(HALL)), "abc"):
            if not (isinstance(value, tuple) and len(value) == 3):
                self.check(value, "form")

    def test_houses(self):
        for houses in (0, 7, -1, HUGE, -HUGE, True, False, None, "3", "", (3,), [3], {3: 3}):
            self.check((houses,) + HALL[1:], "houses")
        for value in ((0, (), ()), (7, (), (((),) * 7,) * 7), (0, 1, 1), ("a", "b", "c")):
            self.check(value, "houses")

    def test_one_to_six_houses(self):
        for houses in range(1, 7):
            self.check((houses, (), (((),) * houses,) * houses), None)

    def test_lanes(self):
        for lanes in (None, [], list(HALL[1]), {}, "", 4, True, ((0, 1, 1),) * 17, (None,) * 17, ((0, 1, 1),) * 40):
            self.check((3, lanes, HALL[2]), "lanes")

    def test_none_to_sixteen_lanes(self):
        for many in range(17):
            self.check((2, ((0, 1, 1),) * many, (((), ()), ((), ()))), None)
            self.check((2, ((0, 1, 1),) * many, (((), tuple(range(many))), ((), ()))), None)

    def test_a_lane_that_is_none(self):
        wrong = [(), (0, 1), (0, 1, 1, 1), [0, 1, 1], None, 5, "011", {0: 1}, ((0, 1, 1),)]
        wrong += [(0, 0, 1), (2, 2, 1), (0, 3, 1), (3, 0, 1), (-1, 0, 1), (0, -1, 1)]
        wrong += [(0, 1, 0), (0, 1, 5), (0, 1, -1), (0, 1, HUGE), (HUGE, 1, 1), (0, -HUGE, 1)]
        for odd in (True, False, None, "1", "", (), [1], {}):
            wrong += [(odd, 2, 1), (2, odd, 1), (0, 1, odd)]
        for lane in wrong:
            for at in range(4):
                self.check(with_lane(lane, at), ("lane", at))
            self.check((1, (lane,), (((),),)), ("lane", 0))

    def test_rooms_from_one_to_four(self):
        for room in range(1, 5):
            self.check(with_lane((0, 1, room)), None)

    def test_the_ends_of_a_lane_are_houses_of_this_net(self):
        for houses in range(2, 7):
            tables = (((),) * houses,) * houses
            self.check((houses, ((houses - 1, 0, 1), (0, houses - 1, 1)), tables), None)
            self.check((houses, ((houses - 1, 0, 1), (0, houses, 1)), tables), ("lane", 1))
            self.check((houses, ((houses, 0, 1), (0, houses, 1)), tables), ("lane", 0))

    def test_tables(self):
        for tables in (None, 3, "abc", [], list(HALL[2]), {}, (), HALL[2][:2], HALL[2] + (HALL[2][0],)):
            self.check((3, HALL[1], tables), "tables")

    def test_a_house_whose_tables_are_none(self):
        for table in (None, 3, "abc", [], [(), (), ()], {}, (), ((), ()), ((),) * 4, True):
            for house in range(3):
                tables = HALL[2][:house] + (table,) + HALL[2][house + 1:]
                self.check((3, HALL[1], tables), ("house", house))

    def test_an_entry_that_is_none(self):
        wrong = [(2, 1), (1, 1), (1, 2, 2), (1, 1, 2), (2, 1, 2), (0,), (3,), (0, 1), (1, 3), (4,), (1, 4), (-1,), (-3,)]
        wrong += [(HUGE,), (True,), (1, True), (False,), ("1",), (None,), ((1,),), ([1],), (1, "2"), ({},)]
        wrong += [[], [1], None, 1, True, "", "1", {}, {1: 2}]
        for entry in wrong:
            for aim in (0, 2):
                self.check(with_entry(entry, 1, aim), ("table", 1, aim))
            self.check(with_entry(entry, 1, 1), ("table", 1, 1))

    def test_a_lane_counted_from_behind_is_none(self):
        for net in NETS:
            for k, (start, end, _) in enumerate(net[1]):
                for entry in ((k - len(net[1]),), (k - len(net[1]), k)):
                    self.check(with_entry(entry, start, end, net), ("table", start, end))

    def test_entries_of_several_lanes(self):
        for entry in ((), (1,), (2,), (1, 2)):
            self.check(with_entry(entry), None)
        self.check(with_entry((0, 9), 0, 1, SIXTEEN), None)
        self.check(with_entry((0, 10), 0, 1, SIXTEEN), ("table", 0, 1))
        self.check(with_entry((15, 16), 1, 0, SIXTEEN), ("table", 1, 0))

    def test_at_the_house_itself_there_is_nothing(self):
        self.check(with_entry((1,), 1, 1), ("table", 1, 1))
        self.check(with_entry((1, 2), 1, 1), ("table", 1, 1))
        self.check(with_entry((0,), 0, 0, ALONE), ("table", 0, 0))
        for house in range(6):
            self.check(with_entry(SIX[2][house][(house + 1) % 6], house, house, SIX), ("table", house, house))

    def test_the_first_error_told_is_due(self):
        # One fault of each word, each in its own part of the triple: the first in this order is told.
        houses = [(3, None), (0, "houses")]
        lanes = [
            (HALL[1], None), ([], "lanes"), (HALL[1][:1] + ((1, 1, 1),) + HALL[1][2:3] + (None,), ("lane", 1)),
        ]
        tables = [
            (HALL[2], None), ([], "tables"), ((HALL[2][0], (), []), ("house", 1)),
            ((((), (0,), (3,)), ((2, 1), (), (2,)), ((3,), (3,), (3,))), ("table", 0, 2)),
        ]
        for (house, one), (lane, two), (table, three) in itertools.product(houses, lanes, tables):
            self.check((house, lane, table), one or two or three)

    def test_a_house_is_told_ahead_of_an_entry(self):
        bad_entry = ((0,), (0,), (0,))
        for late in ([], (), ((), ()), None):
            self.check((3, HALL[1], (bad_entry, HALL[2][1], late)), ("house", 2))

    def test_of_entries_the_least_house_then_the_least_aim(self):
        spots = [(u, d) for u in range(3) for d in range(3)]
        for one, two in itertools.combinations(spots, 2):
            for wrong in ((9,), [], ("a",)):
                self.check(with_entry(wrong, *two, with_entry(wrong, *one)), ("table", *one))

    def test_of_lanes_the_first(self):
        for one, two in itertools.combinations(range(4), 2):
            self.check((3, with_lane(None, two)[1][:one] + (None,) + with_lane(None, two)[1][one + 1:], ()), ("lane", one))

    def test_too_many_lanes_are_told_ahead_of_bad_ones(self):
        self.check((3, (None,) * 16, HALL[2]), ("lane", 0))
        self.check((3, (None,) * 17, HALL[2]), "lanes")

    def test_any_value_anywhere(self):
        for wrong in WRONG_VALUES:
            for value in ((wrong,) * 3, (1, wrong, wrong), (1, (), wrong), (1, (), (wrong,)), (1, (), ((wrong,),))):
                told = asked(net_error, value)
                self.assertEqual(told[0], "returned", value)
            self.assertIsNotNone(net_error((3, HALL[1], wrong)))

    def test_a_part_that_is_changed_is_told(self):
        # Each integer of a net made a bool, each tuple made a list: the place tells the error.
        chance = random.Random(2)
        for net in NETS + tuple(random_net(chance) for _ in range(20)):
            for k, (start, end, room) in enumerate(net[1]):
                for lane in ([start, end, room], (start, end, bool(room)), (start, start, room), (end, end, room)):
                    self.check((net[0], net[1][:k] + (lane,) + net[1][k + 1:], net[2]), ("lane", k))
            for u, d in itertools.product(range(net[0]), repeat=2):
                self.check(with_entry(list(net[2][u][d]), u, d, net), ("table", u, d))
                self.check(with_entry(net[2][u][d] + (len(net[1]),), u, d, net), ("table", u, d))
                for entry in [net[2][u][d] + net[2][u][d][-1:]] * bool(net[2][u][d]):
                    self.check(with_entry(entry, u, d, net), ("table", u, d))


class Serving(unittest.TestCase):

    def test_a_lane_serves_what_the_table_at_its_start_tells(self):
        for net in ALL_NETS:
            houses, lanes, tables = net
            for k, (start, end, _) in enumerate(lanes):
                self.assertEqual(repr(result(aims, net, k)), repr(tuple(sorted(plain_aims(net, k)))))
                for aim in range(houses):
                    self.assertIs(result(serves, net, k, aim), k in tables[start][aim])
                    self.assertIs(serves(net, k, aim), aim in aims(net, k))
                    self.assertEqual(repr(result(ahead, net, k, aim)), repr(tables[end][aim]))
                self.assertIs(serves(net, k, start), False)
                self.assertEqual(ahead(net, k, end), ())

    def test_an_empty_entry_lets_letters_go_nowhere(self):
        for net in ALL_NETS:
            for u, d in itertools.product(range(net[0]), repeat=2):
                if net[2][u][d] == ():
                    for k, (start, end, _) in enumerate(net[1]):
                        self.assertFalse(start == u and serves(net, k, d))
                        self.assertFalse(end == u and ahead(net, k, d))

    def test_so_many_pairs_at_most(self):
        for net in ALL_NETS:
            pairs = sum(len(aims(net, k)) for k in range(len(net[1])))
            self.assertLessEqual(pairs, len(net[1]) * (net[0] - 1))
        for net in (SIX, SIXTEEN, WHEEL):
            self.assertEqual(sum(len(aims(net, k)) for k in range(len(net[1]))), len(net[1]) * (net[0] - 1))


def inverse(order):
    return tuple(sorted(range(len(order)), key=lambda k: order[k]))


class Renaming(unittest.TestCase):

    def orders(self, many, seed):
        if many <= 4:
            return list(itertools.permutations(range(many)))
        chance = random.Random(seed)
        return [tuple(chance.sample(range(many), many)) for _ in range(12)] + [tuple(range(many))]

    def test_renamed(self):
        for net in ALL_NETS:
            for order in self.orders(net[0], 3):
                new = result(renamed, net, order)
                self.assertIsNone(net_error(new))
                self.assertEqual(new[0], net[0])
                self.assertEqual([(order[s], order[e], room) for s, e, room in new[1]], list(net[1]))
                for i, j in itertools.product(range(net[0]), repeat=2):
                    self.assertEqual(new[2][i][j], net[2][order[i]][order[j]])
                self.assertEqual(renamed(new, inverse(order)), net)
                for k in range(len(net[1])):
                    told = tuple(i for i in range(net[0]) if order[i] in aims(net, k))
                    self.assertEqual(aims(new, k), told)

    def test_relaned(self):
        for net in ALL_NETS:
            for order in self.orders(len(net[1]), 4):
                new = result(relaned, net, order)
                self.assertIsNone(net_error(new))
                self.assertEqual(new[0], net[0])
                self.assertEqual(list(new[1]), [net[1][k] for k in order])
                for i, j in itertools.product(range(net[0]), repeat=2):
                    self.assertEqual({order[k] for k in new[2][i][j]}, set(net[2][i][j]))
                self.assertEqual(relaned(new, inverse(order)), net)

    def test_the_order_as_it_is_changes_nothing(self):
        for net in ALL_NETS:
            self.assertEqual(renamed(net, tuple(range(net[0]))), net)
            self.assertEqual(relaned(net, tuple(range(len(net[1])))), net)

    def test_small_ones_by_hand(self):
        self.assertEqual(result(renamed, ALONE, (0,)), ALONE)
        self.assertEqual(result(relaned, ALONE, ()), ALONE)
        self.assertEqual(result(renamed, BARE, (1, 0)), BARE)
        self.assertEqual(
            result(renamed, (2, ((0, 1, 3),), (((), (0,)), ((), ()))), (1, 0)),
            (2, ((1, 0, 3),), (((), ()), ((0,), ()))),
        )
        self.assertEqual(
            result(relaned, (2, ((0, 1, 1), (0, 1, 2), (0, 1, 3)), (((), (0, 2)), ((), ()))), (2, 0, 1)),
            (2, ((0, 1, 3), (0, 1, 1), (0, 1, 2)), (((), (0, 1)), ((), ()))),
        )


class Samples(unittest.TestCase):

    def test_they_are_of_the_kinds_that_are_needed(self):
        self.assertIn(ALONE, SMALL_NETS)
        self.assertEqual((len(SIX[1]), SIX[0], len(SIXTEEN[1])), (16, 6, 16))
        self.assertTrue(any(net[0] == 6 and len(net[1]) == 16 for net in ALL_NETS[len(NETS):]))


if __name__ == "__main__":
    unittest.main()
