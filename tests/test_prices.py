"""D1 to D4, and A2 (c)."""

import itertools
import random
import unittest

from roomahead.lots import filling, free, greatest_lot, lot_error
from roomahead.moving import led, open_deeds, stuck
from roomahead.prices import cheapest_lot, most_letters, price, soonest_stuck
from roomahead.stands import empty
from tests.helper import (
    ALONE, BARE, BLIND, DEAD, FORK, HALL, LOST, LOT_NETS, NETS, SIX, SIXTEEN, TANGLE, UNTOLD, WANDER, WHEEL,
    all_stands, downhill_net, great_nets, grown_net, in_time, letters, plain_ahead, plain_done, plain_lots, plain_open,
    plain_stuck, random_nets, result, small_nets, some_tables, steady,
)

CHANCE = random.Random(50)


def endless_nets(seed, many, houses=3, lanes=5, room=2):
    """Nets without dead ends, of few lanes, that are not free: their lots have two lanes or more."""
    found = []
    chance = random.Random(seed)
    while len(found) < many:
        for net in small_nets(chance.random(), 10, houses, lanes, room):
            lots = plain_lots(net)
            if lots and min(map(len, lots)) > 1:
                found.append(net)
    return found[:many]


# Where all rooms are 1 many lots have one price, and often as many lanes.
ENDLESS = tuple(endless_nets(51, 40)) + tuple(endless_nets(52, 40, 4, 7, 4)) + tuple(endless_nets(59, 60, 4, 7, 1))
SMALL = LOT_NETS + tuple(small_nets(53, 100)) + ENDLESS
GREAT = (SIX, SIXTEEN) + tuple(great_nets(54, 24)) + tuple(grown_net(CHANCE) for _ in range(4))
GREAT += tuple(downhill_net(CHANCE, 6, 16) for _ in range(4))
ALL_NETS = NETS + SMALL + GREAT + tuple(random_nets(55, 40))


def plain_price(net, lot):
    return 1 if len(lot) == 1 else sum(net[1][lane][2] for lane, _ in lot)


def with_rooms(net, rooms):
    return (net[0], tuple((start, end, room) for (start, end, _), room in zip(net[1], rooms)), net[2])


def rings_of_lanes(many, houses, turns, seed):
    """A net whose lanes lie in rings over two or more houses, with the choice of several rings here and there."""
    chance = random.Random(seed)
    ends = [(k % houses, (k + 1) % houses) for k in range(many)]
    lanes = tuple((*pair, chance.randint(1, 4)) for pair in ends)
    return (houses, lanes, some_tables(chance, houses, lanes, turns))


class Price(unittest.TestCase):

    def test_all_lots_of_small_nets(self):
        for net in SMALL:
            for lot in plain_lots(net)[:40]:
                self.assertEqual(repr(result(price, net, lot)), repr(plain_price(net, lot)))

    def test_one_lane_costs_one_whatever_its_room(self):
        for room in range(1, 5):
            net = (3, ((0, 1, room),), LOST[2])
            self.assertEqual(result(price, net, ((0, 2),)), 1)
            self.assertEqual(result(cheapest_lot, net), ((0, 2),))
            self.assertEqual(result(most_letters, net), 0)
            self.assertEqual(result(soonest_stuck, net), (("in", 0, 2),))

    def test_rooms_together(self):
        for rooms in itertools.product((1, 4), repeat=3):
            net = with_rooms(WHEEL, rooms)
            self.assertEqual(result(price, net, ((0, 2), (1, 0), (2, 1))), sum(rooms))
            self.assertEqual(result(most_letters, net), sum(rooms) - 1)
        self.assertEqual(result(price, BLIND, ((0, 2), (1, 0))), 3)


class CheapestLot(unittest.TestCase):

    def test_against_all_lots_of_small_nets(self):
        sizes = set()
        for net in SMALL:
            lots = plain_lots(net)
            told = min(lots, key=lambda lot: (plain_price(net, lot), len(lot), lot), default=())
            self.assertEqual(repr(result(cheapest_lot, net)), repr(told), net)
            most = plain_price(net, told) - 1 if told else None
            self.assertEqual(repr(result(most_letters, net)), repr(most))
            sizes.add(len(told))
        self.assertLessEqual({0, 1, 2, 3, 4}, sizes)

    def assert_cheapest(self, net):
        lots = plain_lots(net)
        told = min(lots, key=lambda lot: (plain_price(net, lot), len(lot), lot), default=())
        self.assertEqual(repr(result(cheapest_lot, net)), repr(told), net)
        return told

    def two_rings(self, rooms, order=range(5)):
        """One ring of two lanes and one of three, on houses of their own; lanes in the order told."""
        ends = [(0, 1), (1, 0), (2, 3), (3, 4), (4, 2)]
        at = {k: place for place, k in enumerate(order)}
        lanes = tuple((*ends[k], rooms[k]) for k in order)
        tables = [[() for _ in range(6)] for _ in range(6)]
        for k, (u, _) in enumerate(ends):
            tables[u][5] = (at[k],)
        return (6, lanes, tuple(tuple(table) for table in tables))

    def test_the_least_price_then_the_fewest_lanes(self):
        for rooms, lanes in (
            ((2, 1, 1, 1, 1), 2), ((2, 2, 1, 1, 1), 3), ((1, 2, 1, 1, 1), 2), ((4, 4, 3, 3, 2), 2), ((4, 4, 3, 3, 1), 3),
            ((4, 4, 2, 2, 4), 2), ((1, 1, 4, 4, 4), 2), ((4, 4, 1, 1, 1), 3),
        ):
            for order in ((0, 1, 2, 3, 4), (2, 3, 4, 0, 1), (4, 1, 3, 0, 2)):
                net = self.two_rings(rooms, order)
                self.assertEqual(len(self.assert_cheapest(net)), lanes)

    def test_the_least_tuple_of_several(self):
        # Three rings of two lanes of one price; the lanes stand in any order.
        ends = [(0, 1), (1, 0), (2, 3), (3, 2), (4, 3), (3, 4)]
        for order in itertools.permutations(range(6)):
            lanes = tuple((*ends[k], 1) for k in order)
            tables = [[() for _ in range(6)] for _ in range(6)]
            for aim, pair in ((5, (0, 1)), (5, (2, 3)), (1, (4, 5))):
                for k in pair:
                    tables[ends[k][0]][aim] += (order.index(k),)
            net = (6, lanes, tuple(tuple(tuple(sorted(entry)) for entry in table) for table in tables))
            self.assert_cheapest(net)

    def test_the_aim_of_the_first_lane_stands_ahead_of_the_second_lane(self):
        # The lane 0 is in two lots of two lanes: with 1 for the aim 3, with 2 for the aim 2. The least tuple has 2.
        # The lanes 3 and 4, on houses of their own, are a dearer lot.
        bare = ((),) * 6
        net = (
            6, ((0, 1, 1), (1, 0, 1), (1, 0, 1), (4, 5, 4), (5, 4, 4)),
            (((), (), (0,), (0,), (), ()), ((), (), (2,), (1,), (), ()), bare, bare, ((3,),) + bare[1:], ((4,),) + bare[1:]),
        )
        self.assertEqual(plain_lots(net)[0], ((0, 2), (1, 3), (2, 2)))
        self.assertEqual(self.assert_cheapest(net), ((0, 2), (2, 2)))

    def test_the_least_aim_of_a_lane(self):
        net = (
            4, ((0, 1, 1), (1, 0, 1)),
            (((), (), (0,), (0,)), ((), (), (1,), (1,)), ((), (), (), ()), ((), (), (), ())),
        )
        self.assertEqual(self.assert_cheapest(net), ((0, 2), (1, 2)))

    def test_of_dead_ends_the_least(self):
        self.assertEqual(result(cheapest_lot, DEAD), ((0, 2),))
        self.assertEqual(result(cheapest_lot, BLIND), ((1, 0),))
        net = (
            4, ((2, 3, 4), (0, 1, 1), (2, 3, 1)),
            (((), (), (1,), (1,)), ((), (), (), ()), ((0, 2), (0, 2), (), ()), ((), (), (), ())),
        )
        self.assertEqual(self.assert_cheapest(net), ((0, 0),))

    def test_no_lot_lies_within_a_part_of_its_lanes(self):
        for net in SMALL + GREAT:
            lanes = [lane for lane, _ in cheapest_lot(net)]
            if len(lanes) > 9:
                continue
            for part in itertools.chain(*[itertools.combinations(lanes, many) for many in range(1, len(lanes))]):
                held = [[d for d in plain_open(net, k) if set(plain_ahead(net, k, d)) <= set(part)] for k in part]
                self.assertFalse(all(held))

    def test_great_nets_against_all_sets_of_lanes(self):
        for net in GREAT + tuple(rings_of_lanes(16, houses, 0, houses) for houses in (2, 3, 4, 6)):
            told = cheapest_lot(net)
            self.assertEqual(told == (), free(net))
            if told:
                self.assertIsNone(lot_error(net, told))
                self.assertEqual(told, cheapest_by_sets(net))

    def test_rooms_and_the_least_price(self):
        chance = random.Random(56)
        for net in SMALL + GREAT[:20]:
            many = len(net[1])
            if free(net):
                continue
            rooms = [chance.randint(1, 3) for _ in range(many)]
            more = [room + chance.randint(0, 1) for room in rooms]
            self.assertLessEqual(most_letters(with_rooms(net, rooms)), most_letters(with_rooms(net, more)))
            ones = with_rooms(net, [1] * many)
            if many < 8:
                self.assertEqual(most_letters(ones) + 1, min(len(lot) for lot in plain_lots(net)))
            self.assertEqual(price(ones, cheapest_lot(ones)), len(cheapest_lot(ones)))


def cheapest_by_sets(net):
    """The cheapest lot, by looking at each set of lanes that is cheap enough."""
    masks = []
    for k in range(len(net[1])):
        masks.append([(d, sum(1 << other for other in plain_ahead(net, k, d))) for d in plain_open(net, k)])
    best = None
    for mask in range(1, 1 << len(masks)):
        lanes = [k for k in range(len(masks)) if mask >> k & 1]
        key = (1 if len(lanes) == 1 else sum(net[1][k][2] for k in lanes), len(lanes))
        if best is not None and key > best[:2]:
            continue
        lot = []
        for k in lanes:
            held = [d for d, others in masks[k] if others & ~mask == 0]
            if not held:
                break
            lot.append((k, held[0]))
        else:
            found = (*key, tuple(lot))
            best = found if best is None or found < best else best
    return best[2] if best else ()


class SoonestStuck(unittest.TestCase):

    def test_as_many_deeds_as_the_least_price_lead_to_a_stuck_stand(self):
        for net in ALL_NETS:
            told = result(soonest_stuck, net)
            if free(net):
                self.assertIsNone(told)
                self.assertIsNone(result(most_letters, net))
                continue
            stand = empty(net)
            for deed in told:
                self.assertFalse(stuck(net, stand))
                stand = plain_done(net, stand, deed)
            self.assertTrue(stuck(net, stand) and plain_stuck(net, stand))
            self.assertEqual(len(told), price(net, cheapest_lot(net)))
            self.assertEqual((type(told), letters(stand)), (tuple, len(told)))
            self.assertEqual(most_letters(net), len(told) - 1)

    def test_it_may_be_the_filling_of_the_cheapest_lot(self):
        for net in ALL_NETS:
            lot = cheapest_lot(net)
            if lot:
                row = filling(net, lot)[:1] if len(lot) == 1 else filling(net, lot)
                self.assertEqual(len(row), len(soonest_stuck(net)))
                self.assertTrue(stuck(net, led(net, empty(net), row)))

    def test_by_hand(self):
        self.assertIn(result(soonest_stuck, BLIND), ((("in", 1, 0),), (("in", 1, 1),)))
        self.assertEqual(sorted(result(soonest_stuck, WHEEL)), [("in", 0, 2), ("in", 1, 0), ("in", 2, 1)])
        self.assertEqual(sorted(result(soonest_stuck, TANGLE)), [("in", 0, 2)] * 3 + [("in", 3, 2)] * 2)
        for net in (FORK, HALL, WANDER, ALONE, BARE, UNTOLD, SIXTEEN):
            self.assertIsNone(result(soonest_stuck, net))
            self.assertEqual(repr(result(cheapest_lot, net)), "()")


class Main(unittest.TestCase):

    def test_the_fewest_letters_of_a_stuck_stand(self):
        count = 0
        for net in SMALL:
            many = 1
            for k, (_, _, room) in enumerate(net[1]):
                served = sum(k in entry for table in net[2] for entry in table)
                many *= sum(served ** lying for lying in range(room + 1))
            if many > 3000:
                continue
            fewest = min((letters(stand) for stand in all_stands(net) if stuck(net, stand)), default=None)
            self.assertEqual(fewest is None, free(net))
            if fewest is not None:
                self.assertEqual(fewest, price(net, cheapest_lot(net)))
                self.assertEqual(fewest, most_letters(net) + 1)
                count += fewest > 1
        self.assertGreater(count, 15)

    def test_no_fewer_deeds_lead_to_a_stuck_stand(self):
        for net in (WHEEL, TANGLE, LOST, BLIND, DEAD) + ENDLESS[:25]:
            if price(net, cheapest_lot(net)) > 4 and net not in (WHEEL, TANGLE):
                continue
            met, row, deeds = {empty(net)}, [empty(net)], 0
            while not any(stuck(net, stand) for stand in row):
                behind = [plain_done(net, stand, deed) for stand in row for deed in open_deeds(net, stand)]
                row = [stand for stand in set(behind) if stand not in met]
                met |= set(row)
                deeds += 1
            self.assertEqual(deeds, len(soonest_stuck(net)))

    def test_with_few_letters_nobody_is_ever_stuck(self):
        chance = random.Random(57)
        for net in SMALL + GREAT:
            most = 40 if free(net) else most_letters(net)
            stand = empty(net)
            for _ in range(40):
                going = [deed for deed in open_deeds(net, stand) if deed[0] != "in" or letters(stand) < most]
                if not going:
                    break
                stand = plain_done(net, stand, chance.choice(going))
                self.assertFalse(stuck(net, stand))


class Calls(unittest.TestCase):

    def test_great_nets_take_little_time(self):
        nets = GREAT + tuple(rings_of_lanes(16, houses, part, 58) for houses in (2, 3, 4, 5, 6) for part in (0, 0.5, 1))
        for net in nets:
            for function in (cheapest_lot, most_letters, soonest_stuck):
                self.assertEqual(in_time(function, net)[0], "returned")
            if not free(net):
                self.assertEqual(in_time(price, net, greatest_lot(net))[0], "returned")

    def test_equal_calls_get_equal_results_also_with_others_between(self):
        calls = []
        for net in SMALL[:80] + GREAT[:8]:
            calls += [(function, (net,)) for function in (cheapest_lot, most_letters, soonest_stuck)]
            if not free(net):
                calls.append((price, (net, greatest_lot(net))))
        self.assertTrue(steady(calls))


if __name__ == "__main__":
    unittest.main()
