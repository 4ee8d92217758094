"""F1 to F6, and A2 (e)."""

import itertools
import random
import unittest

from roomahead.errors import Unfit
from roomahead.homes import dead_ends, longest, ring, settles, wayless
from roomahead.lots import free, greatest_lot, lot_error
from roomahead.makers import circle, grid, nearest, one_way, up_down
from roomahead.nets import net_error, relaned, renamed
from roomahead.stands import empty
from tests.helper import (
    PAIR, WHEEL, fields, in_time, plain_done, plain_has_ring, plain_moves, plain_row_error, random_stand, result, steady,
)

SIZES = [(wide, high) for wide in range(1, 7) for high in range(1, 7) if wide * high <= 6]
ROOMS = (1, 2, 3, 4)


def plain_far(houses, lanes):
    """Distances between all houses, 99 where one does not come."""
    far = {(u, v): 0 if u == v else 99 for u in range(houses) for v in range(houses)}
    for start, end, _ in lanes:
        far[start, end] = 1
    for middle, u, v in itertools.product(range(houses), repeat=3):
        far[u, v] = min(far[u, v], far[u, middle] + far[middle, v])
    return far


def table_of(houses, lanes, wanted):
    """The tables in which a lane stands if wanted(lane, aim) is so."""
    return tuple(
        tuple(
            tuple(k for k, lane in enumerate(lanes) if lane[0] == u and u != d and wanted(k, d)) for d in range(houses)
        ) for u in range(houses)
    )


def random_lanes(chance, houses, most=16):
    return tuple((*chance.sample(range(houses), 2), chance.randint(1, 4)) for _ in range(chance.randint(0, most)))


def lanes_both_ways(chance, houses, most=16):
    """Lanes there and back in any order, that join all houses; several side by side at times."""
    pairs = [(house, chance.randrange(house)) for house in range(1, houses)]
    while houses > 1 and 2 * len(pairs) < most and chance.random() < 0.7:
        pairs.append(tuple(chance.sample(range(houses), 2)))
    ends = pairs + [(other, one) for one, other in pairs]
    while houses > 1 and len(ends) < most and chance.random() < 0.5:
        # One more of those there, with none back of its own.
        ends.append(chance.choice(ends))
    names = chance.sample(range(houses), houses)
    return tuple((names[one], names[other], chance.randint(1, 4)) for one, other in chance.sample(ends, len(ends)))


def joined_nets(seed, many):
    """Pairs of houses and lanes both ways that join them."""
    chance = random.Random(seed)
    found = [grid(wide, high, chance.randint(1, 4)) for wide, high in SIZES]
    found += [circle(houses, chance.randint(1, 4)) for houses in range(3, 7)]
    for _ in range(many):
        houses = chance.randint(1, 6)
        found.append((houses, lanes_both_ways(chance, houses)))
    return found + [(6, lanes_both_ways(random.Random(81), 6)), (2, ((0, 1, 1),) * 8 + ((1, 0, 4),) * 8)]


JOINED = joined_nets(82, 60)


class Shapes(unittest.TestCase):

    def test_grids_of_all_sizes(self):
        for (wide, high), room in itertools.product(SIZES, ROOMS):
            lanes = []
            for y, x in itertools.product(range(high), range(wide)):
                for there, inside in (((y, x + 1), x + 1 < wide), ((y + 1, x), y + 1 < high)):
                    if inside:
                        other = there[0] * wide + there[1]
                        lanes += [(y * wide + x, other, room), (other, y * wide + x, room)]
            self.assertEqual(repr(result(grid, wide, high, room)), repr((wide * high, tuple(lanes))))

    def test_by_hand(self):
        self.assertEqual(result(grid, 1, 1, 4), (1, ()))
        self.assertEqual(result(grid, 1, 3, 2), (3, ((0, 1, 2), (1, 0, 2), (1, 2, 2), (2, 1, 2))))
        self.assertEqual(result(grid, 3, 1, 2), (3, ((0, 1, 2), (1, 0, 2), (1, 2, 2), (2, 1, 2))))
        self.assertEqual(
            [lane[:2] for lane in result(grid, 2, 3, 1)[1]],
            [(0, 1), (1, 0), (0, 2), (2, 0), (1, 3), (3, 1), (2, 3), (3, 2), (2, 4), (4, 2), (3, 5), (5, 3), (4, 5), (5, 4)],
        )
        self.assertEqual(
            [lane[:2] for lane in result(grid, 3, 2, 1)[1]],
            [(0, 1), (1, 0), (0, 3), (3, 0), (1, 2), (2, 1), (1, 4), (4, 1), (2, 5), (5, 2), (3, 4), (4, 3), (4, 5), (5, 4)],
        )

    def test_circles(self):
        for houses, room in itertools.product(range(3, 7), ROOMS):
            there = [(house, house + 1, room) for house in range(houses - 1)] + [(houses - 1, 0, room)]
            back = [(house + 1, house, room) for house in range(houses - 1)] + [(0, houses - 1, room)]
            self.assertEqual(repr(result(circle, houses, room)), repr((houses, tuple(there + back))))


class Nearest(unittest.TestCase):

    def check(self, houses, lanes):
        far = plain_far(houses, lanes)
        tables = table_of(
            houses, lanes, lambda k, d: far[lanes[k][0], d] < 99 and far[lanes[k][0], d] == far[lanes[k][1], d] + 1,
        )
        net = result(nearest, houses, lanes)
        self.assertEqual(repr(net), repr((houses, lanes, tables)))
        self.assertIsNone(net_error(net))
        for aim in range(houses):
            self.assertIsNone(ring(net, aim))
        self.assertEqual(wayless(net), tuple((u, d) for u, d in itertools.product(range(houses), repeat=2) if far[u, d] == 99))
        self.assertEqual(dead_ends(net), ())
        return net

    def test_any_lanes(self):
        chance = random.Random(83)
        count = 0
        for _ in range(150):
            houses = chance.randint(1, 6)
            lanes = random_lanes(chance, houses) if houses > 1 else ()
            net = self.check(houses, lanes)
            count += wayless(net) != ()
        self.assertGreater(count, 20)
        for lanes in ((), ((0, 1, 1),), ((0, 1, 1),) * 16, ((1, 0, 4),) * 3):
            self.check(2, lanes)

    def test_joined_houses(self):
        for houses, lanes in JOINED:
            net = self.check(houses, lanes)
            self.assertEqual(wayless(net), ())

    def test_the_document_s_nets(self):
        self.assertEqual(result(nearest, WHEEL[0], WHEEL[1]), WHEEL)
        self.assertEqual(result(nearest, PAIR[0], PAIR[1]), PAIR)

    def test_where_no_way_leads(self):
        self.assertEqual(result(nearest, 3, ((0, 1, 1),))[2], (((), (0,), ()), ((), (), ()), ((), (), ())))
        # Both ways between 0 and 1, and from 2 to 0: nobody comes to 2.
        self.assertEqual(
            result(nearest, 3, ((0, 1, 1), (1, 0, 1), (2, 0, 1)))[2], (((), (0,), ()), ((1,), (), ()), ((2,), (2,), ())),
        )

    def test_a_long_way_round(self):
        lanes = tuple((house, (house + 1) % 6, 1) for house in range(6))
        tables = table_of(6, lanes, lambda k, d: True)
        self.assertEqual(result(nearest, 6, lanes)[2], tables)

    def test_free_for_rows_and_for_circles_of_three_alone(self):
        for (wide, high), room in itertools.product(SIZES, ROOMS):
            net = nearest(*grid(wide, high, room))
            self.assertIs(free(net), wide == 1 or high == 1)
            self.assertIs(settles(net), free(net))
        for houses, room in itertools.product(range(3, 7), ROOMS):
            net = nearest(*circle(houses, room))
            self.assertIs(free(net), houses == 3)
            if houses > 3:
                self.assertIsNone(lot_error(net, greatest_lot(net)))


class UpDown(unittest.TestCase):

    def check(self, houses, lanes, root):
        far = plain_far(houses, lanes)
        up = [(far[root, end], end) < (far[root, start], start) for start, end, _ in lanes]
        downs = plain_far(houses, [lane for k, lane in enumerate(lanes) if not up[k]])
        straight = table_of(houses, lanes, lambda k, d: not up[k] and downs[lanes[k][1], d] < 99)
        tables = table_of(
            houses, lanes,
            lambda k, d: k in straight[lanes[k][0]][d] or (straight[lanes[k][0]][d] == () and up[k]),
        )
        net = result(up_down, houses, lanes, root)
        self.assertEqual(repr(net), repr((houses, lanes, tables)))
        self.assertIsNone(net_error(net))
        self.assertIs(settles(net), True)
        for u, d in itertools.permutations(range(houses), 2):
            self.assertGreater(len(net[2][u][d]), 0)
        self.check_row(net, root, up)
        return net

    def check_row(self, net, root, up):
        """All downs, those with the greatest end first, then all ups, those with the least end first."""
        far = plain_far(net[0], net[1])

        def place(k):
            end = net[1][k][1]
            pair = (far[root, end], end)
            return (up[k], pair if up[k] else (-pair[0], -pair[1]))
        self.assertIsNone(plain_row_error(net, tuple(sorted(range(len(net[1])), key=place))))

    def test_all_roots(self):
        for houses, lanes in JOINED:
            for root in range(houses):
                self.check(houses, lanes, root)

    def test_whatever_the_order_and_the_rooms_of_the_lanes(self):
        chance = random.Random(84)
        for houses, lanes in JOINED[:24]:
            order = tuple(chance.sample(range(len(lanes)), len(lanes)))
            other = tuple((*lanes[k][:2], chance.randint(1, 4)) for k in order)
            for root in range(houses):
                told = relaned(up_down(houses, lanes, root), order)
                self.assertEqual(self.check(houses, other, root)[2], told[2])

    def test_other_names_of_houses(self):
        chance = random.Random(85)
        for houses, lanes in JOINED[:24]:
            order = tuple(chance.sample(range(houses), houses))
            net = renamed((houses, lanes, (((),) * houses,) * houses), order)
            for root in range(houses):
                self.check(houses, net[1], root)

    def test_by_hand(self):
        self.assertEqual(result(up_down, 1, (), 0), (1, (), (((),),)))
        self.assertEqual(result(up_down, 2, ((0, 1, 2), (1, 0, 3)), 1)[2], (((), (0,)), ((1,), ())))
        # A row of three; the root stands at its end, or in its middle.
        row = ((0, 1, 1), (1, 0, 1), (1, 2, 1), (2, 1, 1))
        for root in range(3):
            self.assertEqual(result(up_down, 3, row, root)[2], (((), (0,), (0,)), ((1,), (), (2,)), ((3,), (3,), ())))

    def test_lanes_within_one_level(self):
        # In the triangle with the root 0 the lane from 1 to 2 is down, that from 2 to 1 up, as 1 is less than 2.
        triangle = ((0, 1, 1), (1, 0, 1), (0, 2, 1), (2, 0, 1), (2, 1, 1), (1, 2, 1))
        self.assertEqual(
            result(up_down, 3, triangle, 0)[2], (((), (0,), (0, 2)), ((1,), (), (5,)), ((3, 4), (3, 4), ())),
        )

    def test_unfit_where_a_lane_has_no_lane_back(self):
        chance = random.Random(86)
        count = 0
        for houses, lanes in JOINED:
            for k, (start, end, room) in enumerate(lanes):
                left = lanes[:k] + lanes[k + 1:]
                lacks = any((other[1], other[0]) not in [lane[:2] for lane in left] for other in left)
                root = chance.randrange(houses)
                cut = any(plain_far(houses, left)[root, house] == 99 for house in range(houses))
                if lacks or cut:
                    self.assertEqual(fields(Unfit, up_down, houses, left, root), {})
                    count += lacks and not cut
                else:
                    self.check(houses, left, root)
        self.assertGreater(count, 100)
        # All houses have a distance from 0, yet there is no lane back to it.
        self.assertEqual(fields(Unfit, up_down, 2, ((0, 1, 1),), 0), {})
        self.assertEqual(fields(Unfit, up_down, 2, ((0, 1, 1),), 1), {})
        self.assertEqual(fields(Unfit, up_down, WHEEL[0], WHEEL[1], 0), {})

    def test_a_lane_back_with_another_room_will_do(self):
        self.check(2, ((0, 1, 1), (0, 1, 2), (1, 0, 4)), 0)

    def test_unfit_where_a_house_has_no_distance_from_the_root(self):
        for root in range(3):
            self.assertEqual(fields(Unfit, up_down, 3, ((0, 1, 1), (1, 0, 1)), root), {})
        for root in range(4):
            two = ((0, 1, 1), (1, 0, 1), (2, 3, 1), (3, 2, 1))
            self.assertEqual(fields(Unfit, up_down, 4, two, root), {})
        for houses in range(2, 7):
            for root in range(houses):
                self.assertEqual(fields(Unfit, up_down, houses, (), root), {})

    def test_each_letter_comes_home_not_always_by_a_shortest_way(self):
        chance = random.Random(87)
        longer = 0
        for houses, lanes in JOINED[:40]:
            root = chance.randrange(houses)
            net = up_down(houses, lanes, root)
            check_coming_home(self, net, chance)
            far = plain_far(houses, lanes)
            for aim in range(houses):
                longer += any(many > far[house, aim] for house, many in enumerate(longest(net, aim)))
        self.assertGreater(longer, 5)


def check_coming_home(case, net, chance):
    """Whichever moves are done, the net gets empty."""
    for _ in range(3):
        stand = random_stand(chance, net)
        going = plain_moves(net, stand)
        while going:
            stand = chance.choice(going)[1]
            going = plain_moves(net, stand)
        case.assertEqual(stand, empty(net))


class OneWay(unittest.TestCase):

    def test_two_to_six_houses(self):
        chance = random.Random(88)
        for houses, room in itertools.product(range(2, 7), ROOMS):
            there = tuple((house, (house + 1) % houses, room) for house in range(houses))
            tables = table_of(houses, there + there, lambda k, d: (k < houses) == (d > k % houses))
            net = result(one_way, houses, room)
            self.assertEqual(repr(net), repr((houses, there + there, tables)))
            self.assertIsNone(net_error(net))
            self.assertIs(settles(net), True)
            for aim in range(houses):
                self.assertFalse(plain_has_ring(net, aim))
                self.assertEqual(longest(net, aim), tuple((aim - house) % houses for house in range(houses)))
            self.assertEqual(wayless(net), ())
            check_coming_home(self, net, chance)

    def test_each_letter_comes_over_the_houses_between(self):
        for houses in range(2, 7):
            net = one_way(houses, 1)
            for house, aim in itertools.permutations(range(houses), 2):
                stand = plain_done(net, empty(net), ("in", net[2][house][aim][0], aim))
                deeds = []
                while stand != empty(net):
                    (deed, stand), = plain_moves(net, stand)
                    deeds.append(deed[0])
                self.assertEqual(deeds, ["on"] * ((aim - house) % houses - 1) + ["out"])


class Calls(unittest.TestCase):

    def test_great_nets_take_little_time(self):
        for houses, lanes in JOINED[-2:]:
            self.assertEqual(len(lanes) > 9, True)
            self.assertEqual(in_time(nearest, houses, lanes)[0], "returned")
            for root in range(houses):
                self.assertEqual(in_time(up_down, houses, lanes, root)[0], "returned")

    def test_equal_calls_get_equal_results_also_with_others_between(self):
        calls = [(grid, (*size, room)) for size in SIZES for room in ROOMS]
        calls += [(function, (houses, room)) for function in (circle, one_way) for houses in range(3, 7) for room in ROOMS]
        calls += [(nearest, pair) for pair in JOINED]
        calls += [(up_down, (*pair, root)) for pair in JOINED for root in range(pair[0])]
        self.assertTrue(steady(calls))


if __name__ == "__main__":
    unittest.main()
