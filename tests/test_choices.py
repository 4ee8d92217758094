"""G1 to G4, and G6 so far as it speaks of these."""

import itertools
import random
import unittest

from roomahead.choices import addable, choices_left, mending, widest, with_choice, without_choice
from roomahead.errors import TooMany, Unfit
from roomahead.lots import free, greatest_lot, lot_error
from roomahead.makers import circle, grid, nearest, up_down
from roomahead.nets import aims, net_error
from tests.helper import (
    ALONE, BARE, DEAD, FORK, LOST, LOT_NETS, NETS, PAIR, SIX, SIXTEEN, TANGLE, UNTOLD, WANDER, WHEEL, WRONG_VALUES,
    downhill_net, fields, great_nets, grown_net, in_time, net_with_entry, plain_ahead, plain_lots, plain_open,
    plain_waves, random_nets, result, small_nets, steady,
)

CHANCE = random.Random(90)
SPOKE = (3, ((0, 1, 1), (1, 2, 1)), (((), (0,), (0,)), ((), (), ()), ((), (), ())))
PRONG = (4, ((0, 1, 1), (1, 2, 1), (1, 3, 1)), (((), (0,), (0,), (0,)), ((),) * 4, ((),) * 4, ((),) * 4))
THREE = up_down(*circle(3, 1), 0)
SMALL = LOT_NETS + (SPOKE, PRONG, THREE) + tuple(small_nets(91, 80))
GREAT = (SIX, SIXTEEN, up_down(*grid(3, 2, 1), 1), nearest(*grid(2, 3, 2))) + tuple(great_nets(92, 6))
GREAT += tuple(grown_net(CHANCE) for _ in range(4)) + tuple(downhill_net(CHANCE, 6, 16) for _ in range(3))
ALL_NETS = NETS + SMALL + GREAT + tuple(random_nets(93, 20))
FREE = tuple(net for net in ALL_NETS if 0 not in plain_waves(net))
SPOILT = tuple(net for net in ALL_NETS if 0 in plain_waves(net))
HUGE = 10 ** 399


def plain_choices(net):
    """All choices, ascending, each with whether it is taken."""
    found = []
    for house, aim, lane in itertools.product(range(net[0]), range(net[0]), range(len(net[1]))):
        if house != aim and net[1][lane][0] == house:
            found.append(((house, aim, lane), lane in net[2][house][aim]))
    return found


def plain_left(net):
    return [choice for choice, taken in plain_choices(net) if not taken]


def plain_with(net, *choices):
    for house, aim, lane in choices:
        net = net_with_entry(net, house, aim, tuple(sorted({*net[2][house][aim], lane})))
    return net


def plain_free(net):
    return 0 not in plain_waves(net)


def nets_with_left(many, seed):
    """Nets that are not free, with so many choices left: four houses, some lanes; of some fit choices mend them."""
    chance = random.Random(seed)
    found = []
    while len(found) < 12:
        houses = chance.randint(3, 5)
        lanes = tuple((*chance.sample(range(houses), 2), 1) for _ in range(chance.randint(6, 10)))
        net = (houses, lanes, (((),) * houses,) * houses)
        choices = plain_left(net)
        if len(choices) < many:
            continue
        net = plain_with(net, *chance.sample(choices, len(choices) - many))
        if not plain_free(net):
            found.append(net)
    return found


def nets_to_mend(seed, many):
    """Nets that are not free, of which one to three choices were taken away from a free one."""
    chance = random.Random(seed)
    found = []
    while len(found) < many:
        net = grown_net(chance, chance.randint(3, 4), chance.randint(3, 7))
        taken = [choice for choice, taken in plain_choices(net) if taken]
        for house, aim, lane in chance.sample(taken, min(len(taken), chance.randint(1, 3))):
            net = net_with_entry(net, house, aim, tuple(k for k in net[2][house][aim] if k != lane))
        if not plain_free(net):
            found.append(net)
    return found


class Choices(unittest.TestCase):

    def test_all_that_are_left_ascending(self):
        count = 0
        for net in ALL_NETS:
            told = result(choices_left, net)
            self.assertEqual(repr(told), repr(tuple(plain_left(net))))
            self.assertEqual(list(told), sorted(told))
            count = max(count, len(told))
        self.assertGreater(count, 30)
        self.assertEqual(len(choices_left((6, SIX[1], (((),) * 6,) * 6))), 80)

    def test_by_hand(self):
        for net in (ALONE, BARE, PAIR, SIX, WHEEL):
            self.assertEqual(repr(result(choices_left, net)), "()")
        self.assertEqual(result(choices_left, DEAD), ((0, 1, 0),))
        self.assertEqual(
            result(choices_left, UNTOLD), ((0, 1, 0), (0, 2, 0), (1, 0, 1), (1, 2, 1)),
        )
        self.assertEqual(result(choices_left, SPOKE), ((1, 0, 1), (1, 2, 1)))

    def test_with_choice_adds_it(self):
        for net in ALL_NETS:
            for choice in plain_left(net):
                told = result(with_choice, net, choice)
                self.assertEqual(repr(told), repr(plain_with(net, choice)))
                self.assertIsNone(net_error(told))

    def test_without_choice_takes_it_away(self):
        for net in ALL_NETS:
            for (house, aim, lane), taken in plain_choices(net):
                if taken:
                    entry = tuple(k for k in net[2][house][aim] if k != lane)
                    told = result(without_choice, net, (house, aim, lane))
                    self.assertEqual(repr(told), repr(net_with_entry(net, house, aim, entry)))
                    self.assertIsNone(net_error(told))

    def test_there_and_back(self):
        for net in ALL_NETS:
            for choice, taken in plain_choices(net):
                one, two = (without_choice, with_choice) if taken else (with_choice, without_choice)
                self.assertEqual(repr(two(one(net, choice), choice)), repr(net))
                self.assertEqual(fields(Unfit, two, net, choice), {})
                self.assertEqual(fields(Unfit, one, one(net, choice), choice), {})

    def test_the_lane_serves_the_aim_then(self):
        for net in SMALL:
            for house, aim, lane in plain_left(net):
                self.assertNotIn(aim, aims(net, lane))
                self.assertIn(aim, aims(with_choice(net, (house, aim, lane)), lane))

    def check_unfit(self, net, value):
        for function in (with_choice, without_choice):
            self.assertEqual(fields(Unfit, function, net, value), {})

    def test_any_value(self):
        for net in (ALONE, BARE, WHEEL, FORK, TANGLE, SIX, (3, SIX[1][:2], (((),) * 3,) * 3)):
            for value in WRONG_VALUES:
                for other in (value, (value,), (value, value), (value, value, value), (0, 1, value), (value, 1, 0)):
                    if repr(other) not in [repr(choice) for choice, _ in plain_choices(net)]:
                        self.check_unfit(net, other)

    def test_values_near_to_choices(self):
        for net in (WHEEL, FORK, TANGLE, THREE, WANDER, SIX, SIXTEEN, UNTOLD):
            houses, lanes = net[0], len(net[1])
            for (house, aim, lane), _ in plain_choices(net)[:30]:
                for value in (
                    [house, aim, lane], (house, aim), (house, aim, lane, lane), (house, aim, lane, ()),
                    ((house, aim, lane),), [(house, aim, lane)], (house, aim, (lane,)), (house, (aim, lane)),
                    (house, house, lane), (aim, aim, lane), (aim, house, lane), (str(house), aim, lane),
                    (house, str(aim), lane), (house, aim, str(lane)), (house, aim, None), (None, aim, lane),
                    (house, None, lane), (house - houses, aim, lane), (house, aim - houses, lane),
                    (house, aim, lane - lanes), (house + houses, aim, lane), (house, aim + houses, lane),
                    (house, aim, lane + lanes), (house, aim, lanes), (house, houses, lane), (houses, aim, lane),
                    (house, aim, -1), (-1, aim, lane), (house, -1, lane), (house, aim, HUGE), (house, HUGE, lane),
                    (HUGE, aim, lane), (house, aim, -HUGE), (house, -HUGE, lane), (-HUGE, aim, lane),
                    {house: (aim, lane)}, f"{house}{aim}{lane}", (lane, house, aim) if lane != house else None,
                ):
                    self.check_unfit(net, value)
                for other in range(lanes):
                    if net[1][other][0] != house:
                        self.check_unfit(net, (house, aim, other))

    def test_true_is_not_one_nor_false_nought(self):
        count = 0
        for net in (WHEEL, FORK, TANGLE, THREE, PAIR, SIX, SIXTEEN, UNTOLD):
            for choice, _ in plain_choices(net):
                for place, item in enumerate(choice):
                    if item < 2:
                        self.check_unfit(net, choice[:place] + (bool(item),) + choice[place + 1:])
                        count += 1
        self.assertGreater(count, 100)


class Adding(unittest.TestCase):

    def test_addable(self):
        kinds = set()
        for net in FREE:
            told = [choice for choice in plain_left(net) if plain_free(plain_with(net, choice))]
            self.assertEqual(repr(result(addable, net)), repr(tuple(told)))
            kinds.add((told != [], len(told) < len(plain_left(net))))
        self.assertEqual(len(kinds), 4)

    def test_widest_by_goings_again_and_again(self):
        goings = set()
        for net in FREE:
            wide, many, again = net, 0, True
            while again:
                again = False
                for choice in plain_left(net):
                    if choice in plain_left(wide) and plain_free(plain_with(wide, choice)):
                        wide, again = plain_with(wide, choice), True
                many += 1
            told = result(widest, net)
            self.assertEqual(repr(told), repr(wide))
            self.assertIsNone(net_error(told))
            self.assertIs(free(told), True)
            self.assertEqual(addable(told), ())
            self.assertEqual(widest(told), told)
            for u, d in itertools.product(range(net[0]), repeat=2):
                self.assertLessEqual(set(net[2][u][d]), set(told[2][u][d]))
            goings.add(many)
        # One that takes nothing, one ahead of it, and nets for which one going would not do.
        self.assertLessEqual({1, 2, 3}, goings)

    def test_unfit_if_the_net_is_not_free(self):
        for net in SPOILT:
            self.assertEqual(fields(Unfit, addable, net), {})
            self.assertEqual(fields(Unfit, widest, net), {})

    def test_by_hand(self):
        for net in (ALONE, BARE, PAIR, SIXTEEN):
            self.assertEqual(repr(result(addable, net)), "()")
            self.assertEqual(result(widest, net), net)
        self.assertEqual(result(addable, UNTOLD), ((0, 1, 0), (1, 2, 1)))
        self.assertEqual(result(widest, UNTOLD)[2], (((), (0,), (0,)), ((), (), (1,)), ((), (), ())))

    def test_one_going_alone_may_leave_out_a_choice(self):
        # (0, 2, 0) comes first, when the house 1 has no lane for 2 yet; behind (1, 2, 1) it can be taken.
        self.assertNotIn((0, 2, 0), addable(UNTOLD))
        self.assertIn((0, 2, 0), addable(with_choice(UNTOLD, (1, 2, 1))))
        self.assertEqual(choices_left(widest(UNTOLD)), ((1, 0, 1),))


class Mending(unittest.TestCase):

    def check(self, net):
        left = plain_left(net)
        if plain_free(net):
            told = ()
        elif len(left) > 16:
            self.assertEqual(fields(TooMany, mending, net), {"limit": 16})
            return "many"
        else:
            told = None
            for many in (2, 1):
                good = [part for part in itertools.combinations(left, many) if plain_free(plain_with(net, *part))]
                told = min(good, default=told)
        self.assertEqual(repr(result(mending, net)), repr(told))
        return told if told is None else len(told)

    def test_against_all_choices_of_at_most_two(self):
        found = {}
        for net in ALL_NETS + tuple(nets_to_mend(94, 80)):
            kind = self.check(net)
            found[kind] = found.get(kind, 0) + 1
        self.assertEqual(set(found), {0, 1, 2, None, "many"})
        self.assertGreater(min(found.values()), 6)

    def test_sixteen_choices_left_and_seventeen(self):
        kinds = {many: {self.check(net) for net in nets_with_left(many, many)} for many in (15, 16, 17, 18)}
        self.assertEqual((kinds[17], kinds[18]), ({"many"}, {"many"}))
        self.assertNotIn("many", kinds[15] | kinds[16])

    def test_one_choice_more_or_fewer_at_the_bound(self):
        # The dead end of SPOKE, with seven lanes more that no table knows yet.
        bare = ((), (), ())
        net = (3, SPOKE[1] + ((2, 0, 1),) * 7, (((), (0,), (0,)), bare, bare))
        self.assertEqual(len(choices_left(net)), 16)
        self.assertEqual(result(mending, net), ((1, 2, 1),))
        more = without_choice(net, (0, 1, 0))
        self.assertEqual(len(choices_left(more)), 17)
        self.assertEqual(fields(TooMany, mending, more), {"limit": 16})
        mended = with_choice(without_choice(more, (0, 2, 0)), (1, 2, 1))
        self.assertEqual(len(choices_left(mended)), 17)
        self.assertEqual(repr(result(mending, mended)), "()")

    def test_a_free_net_with_more_choices_left(self):
        count = 0
        for net in FREE:
            if len(plain_left(net)) > 16:
                self.assertEqual(repr(result(mending, net)), "()")
                count += 1
        self.assertGreater(count, 5)
        self.assertEqual(result(mending, (6, SIX[1], (((),) * 6,) * 6)), ())

    def test_by_hand(self):
        self.assertEqual(result(mending, SPOKE), ((1, 2, 1),))
        self.assertEqual(result(mending, PRONG), ((1, 2, 1), (1, 3, 2)))
        for net in (WHEEL, LOST, DEAD):
            self.assertIsNone(result(mending, net))
        for net in (ALONE, BARE, FORK, PAIR, UNTOLD):
            self.assertEqual(repr(result(mending, net)), "()")

    def test_the_least_of_several(self):
        # Two lanes lead from 1 to 2: either mends the net alone, and the lesser one is told, not both.
        net = (3, ((0, 1, 1), (1, 2, 1), (1, 2, 1)), (((), (0,), (0,)), ((), (), ()), ((), (), ())))
        self.assertEqual(result(mending, net), ((1, 2, 1),))
        # Letters for 3 and for 4 need a lane each; for 3 there are two.
        bare = ((),) * 5
        net = (5, ((0, 1, 1), (1, 3, 1), (1, 3, 1), (1, 4, 1)), (((), (), (), (0,), (0,)), bare, bare, bare, bare))
        self.assertEqual(self.check(net), 2)
        self.assertEqual(result(mending, net), ((1, 3, 1), (1, 4, 3)))

    def test_three_choices_are_not_tried(self):
        # Three dead ends, each with a choice that would mend it.
        net = (
            5, ((0, 1, 1), (1, 2, 1), (1, 3, 1), (1, 4, 1)),
            (((), (0,), (0,), (0,), (0,)), ((),) * 5, ((),) * 5, ((),) * 5, ((),) * 5),
        )
        self.assertIsNone(result(mending, net))
        self.assertTrue(plain_free(plain_with(net, (1, 2, 1), (1, 3, 2), (1, 4, 3))))

    def test_a_choice_more_can_spoil_and_can_mend(self):
        self.assertIs(free(with_choice(FORK, (1, 0, 1))), False)
        self.assertIs(free(with_choice(SPOKE, (1, 2, 1))), True)

    def test_a_lot_without_choices_left_behind_its_lanes_stays_one(self):
        count = 0
        for net in SPOILT:
            for lot in plain_lots(net)[:10] if len(net[1]) < 8 else [greatest_lot(net)]:
                ends = [(net[1][lane][1], aim) for lane, aim in lot]
                if not any(choice[:2] in ends for choice in plain_left(net)):
                    whole = plain_with(net, *plain_left(net))
                    self.assertIsNone(lot_error(whole, lot))
                    count += whole != net
        self.assertGreater(count, 5)


class Calls(unittest.TestCase):

    def test_great_nets_take_little_time(self):
        bare = (6, SIX[1], (((),) * 6,) * 6)
        for net in GREAT + (bare,):
            for function in (choices_left, addable, widest, mending):
                in_time(function, net)
        for net in nets_with_left(16, 95):
            self.assertEqual(in_time(mending, net)[0], "returned")

    def test_nets_of_all_sorts_are_met(self):
        self.assertGreater(min(len(FREE), len(SPOILT)), 30)
        self.assertTrue(any(len(net[1]) == 16 for net in FREE) and any(len(net[1]) == 16 for net in SPOILT))
        for net in SPOILT:
            held = [k for k in range(len(net[1])) if any(not plain_ahead(net, k, d) for d in plain_open(net, k))]
            self.assertTrue(held or greatest_lot(net))

    def test_equal_calls_get_equal_results_also_with_others_between(self):
        calls = []
        for net in ALL_NETS[:50]:
            calls += [(function, (net,)) for function in (choices_left, addable, widest, mending)]
            choices = [choice for choice, _ in plain_choices(net)[:6]]
            calls += [(function, (net, choice)) for function in (with_choice, without_choice) for choice in choices]
        self.assertTrue(steady(calls))


if __name__ == "__main__":
    unittest.main()
