"""E4, and of E5 what speaks of homeward."""

import itertools
import random
import unittest

from roomahead.errors import TooMany
from roomahead.homes import measure, settles
from roomahead.lots import free
from roomahead.moving import stuck
from roomahead.rescues import homeward
from roomahead.stands import empty, stand_error
from tests.helper import (
    ALONE, BARE, DEAD, FORK, HALL, LOST, LOT_NETS, NETS, PAIR, SIX, SIXTEEN, TANGLE, TWO, UNTOLD, WANDER, WHEEL,
    all_stands, downhill_net, fields, great_nets, grown_net, in_time, letters, outcome, plain_done, plain_moves,
    random_nets, random_stand, result, small_nets, steady,
)

CHANCE = random.Random(70)
SMALL = LOT_NETS + tuple(small_nets(71, 40)) + tuple(downhill_net(CHANCE, 4, 5) for _ in range(10))
GREAT = (SIX, SIXTEEN) + tuple(great_nets(72, 6)) + tuple(grown_net(CHANCE) for _ in range(6))
GREAT += tuple(downhill_net(CHANCE, 6, 16) for _ in range(4))
ALL_NETS = NETS + SMALL + GREAT + tuple(random_nets(73, 20))

# So many stands can be come to by moves from these, this one too.
COUNTED = (
    (
        299, (3, ((0, 1, 2), (1, 0, 3), (1, 0, 3), (2, 1, 4)), (((), (0,), (0,)), ((1, 2), (), (1, 2)), ((3,), (3,), ()))),
        ((1, 1), (0, 2, 0), (), (0, 0, 0, 1)),
    ),
    (
        300, (3, ((2, 0, 2), (0, 2, 4), (1, 0, 2), (2, 1, 4)), (((), (1,), (1,)), ((2,), (), (2,)), ((3,), (0, 3), ()))),
        ((1, 1), (2, 1, 2, 1), (0, 0), (1, 1, 1, 1)),
    ),
    (
        301,
        (
            3, ((0, 1, 4), (1, 2, 1), (1, 0, 3), (1, 0, 1), (1, 2, 2), (2, 0, 3)),
            (((), (0,), (0,)), ((1, 2, 3, 4), (), (2, 3, 4)), ((), (5,), ())),
        ),
        ((2, 2, 1, 1), (), (2,), (), (0,), (1, 1, 1)),
    ),
)


def side_by_side(rooms, dead=False):
    """A net of lanes from 0 to 1, and the stand of letters that are home, as many as the rooms; one at a dead end, too."""
    lanes = tuple((0, 1, room) for room in rooms) + ((0, 2, 1),)
    many = len(rooms)
    net = (3, lanes, (((), tuple(range(many + dead)), ()), ((), (), ()), ((), (), ())))
    return net, tuple((1,) * room for room in rooms) + (((1,),) if dead else ((),))


def plain_homeward(net, stand, most=400):
    """How many stands can be come to by moves, or most, and the fewest moves to the empty net, None if none lead there."""
    steps = {stand: 0}
    queue = [stand]
    for here in queue:
        for _, behind in plain_moves(net, here):
            if behind not in steps:
                steps[behind] = steps[here] + 1
                queue.append(behind)
        if len(queue) >= most:
            return most, None
    return len(queue), steps.get(((),) * len(net[1]))


class Homeward(unittest.TestCase):

    def check(self, net, stand):
        """The kind of answer that is due here, and given."""
        many, fewest = plain_homeward(net, stand)
        if many > 300:
            self.assertEqual(fields(TooMany, homeward, net, stand), {"limit": 300})
            return "many"
        told = result(homeward, net, stand)
        if fewest is None:
            self.assertIsNone(told)
            return "doomed"
        self.assertEqual((type(told), len(told)), (tuple, fewest), (net, stand))
        here = stand
        for deed in told:
            self.assertIn(deed[0], ("on", "out"))
            here = plain_done(net, here, deed)
            self.assertIsNotNone(here)
        self.assertEqual(here, empty(net))
        if settles(net):
            self.assertLessEqual(len(told), measure(net, stand))
        return "home"

    def test_all_stands_of_small_nets(self):
        found = {}
        for net in SMALL:
            served = [sum(k in entry for table in net[2] for entry in table) for k in range(len(net[1]))]
            many = 1
            for aims, (_, _, room) in zip(served, net[1]):
                many *= sum(aims ** lying for lying in range(room + 1))
            if many > 400:
                continue
            for stand in all_stands(net):
                kind = self.check(net, stand)
                found[kind] = found.get(kind, 0) + 1
                if free(net):
                    self.assertNotEqual(kind, "doomed")
                if stuck(net, stand):
                    self.assertEqual(kind, "doomed")
        self.assertGreater(min(found["home"], found["doomed"]), 300)

    def test_some_stands_of_great_nets(self):
        chance = random.Random(74)
        found = {}
        for net in ALL_NETS:
            for _ in range(3):
                stand = list(random_stand(chance, net))
                # Few letters, for otherwise the stands are too many.
                for lane in chance.sample(range(len(stand)), max(0, len(stand) - 3)):
                    stand[lane] = ()
                kind = self.check(net, tuple(stand))
                found[kind] = found.get(kind, 0) + 1
        self.assertGreater(min(found.get(kind, 0) for kind in ("home", "doomed", "many")), 5)

    def test_the_empty_stand(self):
        for net in ALL_NETS:
            self.assertEqual(repr(result(homeward, net, empty(net))), "()")

    def test_by_hand(self):
        self.assertEqual(result(homeward, PAIR, ((1,), (0,)))[0][0], "out")
        self.assertEqual(result(homeward, HALL, ((2,), (), (), ())), (("on", 0, 2), ("out", 2)))
        self.assertEqual(
            sorted(result(homeward, HALL, ((), (), (), (0, 1)))), [("on", 3, 1), ("out", 1), ("out", 3)],
        )
        for net, stand in (
            (WHEEL, ((2,), (0,), (1,))), (LOST, ((2,),)), (LOST, ((2, 2),)), (DEAD, ((2,),)),
            (TANGLE, ((2, 2, 2), (), (), (2, 2))), (TANGLE, ((2, 2, 1), (), (), (2, 2))),
        ):
            self.assertIsNone(result(homeward, net, stand))

    def test_where_letters_may_go_to_and_fro(self):
        self.assertEqual(len(result(homeward, WANDER, ((2,), (2,), (2,)))), 6)
        self.assertEqual(len(result(homeward, WANDER, ((), (2,), ()))), 3)
        self.assertEqual(len(result(homeward, WANDER, ((2,), (2,), ()))), 5)

    def test_of_two_ways_the_shorter_one(self):
        net = (
            4, ((0, 1, 1), (1, 2, 1), (2, 3, 1), (1, 3, 1)),
            (((), (), (), (0,)), ((), (), (), (1, 3)), ((), (), (), (2,)), ((), (), (), ())),
        )
        self.assertEqual(result(homeward, net, ((3,), (), (), ())), (("on", 0, 3), ("out", 3)))
        self.assertEqual(len(result(homeward, net, ((3,), (), (), (3,)))), 3)

    def test_a_letter_that_is_home_bars_others_no_longer_once_it_is_out(self):
        self.assertEqual(result(homeward, WHEEL, ((2,), (2,), ())), (("out", 1), ("on", 0, 1), ("out", 1)))

    def test_letters_of_a_settled_net_always_come_home(self):
        chance = random.Random(75)
        count = 0
        for net in ALL_NETS:
            if free(net):
                for _ in range(6):
                    told = outcome(homeward, (net, random_stand(chance, net)), {})
                    self.assertTrue(told[:2] == ("raised", TooMany) or told[1] is not None)
                    count += told[0] == "returned"
        self.assertGreater(count, 50)


class Limit(unittest.TestCase):

    def test_three_hundred_stands_and_one_more(self):
        for many, net, stand in COUNTED:
            self.assertIsNone(stand_error(net, stand))
            self.assertEqual(plain_homeward(net, stand)[0], many)
            if many <= 300:
                self.assertEqual(result(homeward, net, stand) is None, plain_homeward(net, stand)[1] is None)
            else:
                self.assertEqual(fields(TooMany, homeward, net, stand), {"limit": 300})

    def test_lanes_side_by_side(self):
        for rooms in itertools.combinations_with_replacement(range(1, 5), 4):
            many = 1
            for room in rooms:
                many *= room + 1
            net, stand = side_by_side(rooms)
            if many <= 300:
                self.assertEqual(len(result(homeward, net, stand)), sum(rooms))
            else:
                self.assertEqual(fields(TooMany, homeward, net, stand), {"limit": 300})

    def test_it_is_raised_ahead_of_none(self):
        for rooms, many in (((3, 4, 4, 2), 300), ((4, 4, 4, 2), 375), ((4, 4, 4), 125)):
            net, stand = side_by_side(rooms, True)
            self.assertEqual(plain_homeward(net, stand)[0], many)
            if many <= 300:
                self.assertIsNone(result(homeward, net, stand))
            else:
                self.assertEqual(fields(TooMany, homeward, net, stand), {"limit": 300})

    def test_it_is_raised_also_where_a_short_row_leads_home(self):
        net, stand = side_by_side((1,) * 9)
        self.assertEqual(fields(TooMany, homeward, net, stand), {"limit": 300})
        net, stand = side_by_side((1,) * 8)
        self.assertEqual(len(result(homeward, net, stand)), 8)


class Calls(unittest.TestCase):

    def test_great_nets_take_little_time(self):
        chance = random.Random(76)
        for net in GREAT:
            for stand in (random_stand(chance, net), empty(net)):
                in_time(homeward, net, stand)
        full = tuple((0,) * 3 if start == 1 else (1,) * 4 for start, _, _ in SIXTEEN[1])
        self.assertEqual(letters(full), 58)
        self.assertEqual(in_time(homeward, SIXTEEN, full)[:2], ("raised", TooMany))

    def test_equal_calls_get_equal_results_also_with_others_between(self):
        chance = random.Random(77)
        calls = [(homeward, (net, random_stand(chance, net))) for net in SMALL for _ in range(3)]
        calls += [(homeward, (net, stand)) for _, net, stand in COUNTED]
        for net in (FORK, TWO, UNTOLD, ALONE, BARE):
            calls += [(homeward, (net, stand)) for stand in all_stands(net)]
        self.assertTrue(steady(calls))


if __name__ == "__main__":
    unittest.main()
