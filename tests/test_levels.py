"""H1 to H4, and A2 so far as it speaks of levels."""

import itertools
import random
import unittest

from roomahead.errors import TooMany, Unfit
from roomahead.levels import bad_groups, fewest_levels, levelled, only
from roomahead.lots import free
from roomahead.makers import circle, grid, nearest, one_way, up_down
from roomahead.moving import moves, stuck
from roomahead.nets import net_error
from roomahead.stands import stand_error
from tests.helper import (
    ALONE, BARE, DEAD, FORK, HALL, LOST, LOT_NETS, NETS, PAIR, SIX, SIXTEEN, TANGLE, TWO, UNTOLD, WANDER, WHEEL, fields,
    great_nets, in_time, led_nets, outcome, plain_aims, plain_waves, plain_ways, random_nets, random_stand, result,
    small_nets, steady,
)

SQUARE = nearest(*grid(2, 2, 1))
SPOKE = (3, ((0, 1, 1), (1, 2, 1)), (((), (0,), (0,)), ((), (), ()), ((), (), ())))
SIDES = (2, ((0, 1, 1), (0, 1, 4), (1, 0, 2), (1, 0, 1)), (((), (0, 1)), ((3,), ())))
SMALL = LOT_NETS + (SQUARE, SPOKE, SIDES) + tuple(small_nets(110, 60)) + tuple(small_nets(111, 60, 3, 8))
SMALL += tuple(led_nets(112, 40, 3, 6)) + tuple(led_nets(113, 40, 4, 5)) + tuple(led_nets(122, 40, 5, 7))
GREAT = (SIX, SIXTEEN, up_down(*grid(3, 2, 1), 2), nearest(*grid(3, 2, 2)), nearest(*circle(6, 1)), one_way(6, 3))
GREAT += tuple(great_nets(114, 8)) + tuple(led_nets(115, 16, 6, 16)) + tuple(led_nets(116, 8, 6, 6))
ALL_NETS = NETS + SMALL + GREAT + tuple(random_nets(117, 20))


def plain_only(net, group):
    tables = [[list(entry) for entry in table] for table in net[2]]
    for table in tables:
        for d in range(net[0]):
            if d not in group:
                table[d] = []
    return (*net[:2], tuple(tuple(tuple(entry) for entry in table) for table in tables))


def groups(net):
    """All groups of the houses, shorter ones first, those of one length ascending."""
    rows = [row for many in range(net[0] + 1) for row in itertools.combinations(range(net[0]), many)]
    return sorted(rows, key=lambda row: (len(row), row))


def is_bad(net, group):
    return 0 in plain_waves(plain_only(net, group))


def plain_bad(net):
    """All bad groups."""
    return [group for group in groups(net) if is_bad(net, group)]


def tellings(houses, most=6):
    """All tuples that tell levels, at most so many."""
    rows = itertools.product(range(min(houses, most)), repeat=houses)
    return [row for row in rows if set(row) == set(range(max(row) + 1))]


def level_groups(told):
    return [tuple(d for d, level in enumerate(told) if level == here) for here in range(max(told) + 1)]


def plain_fewest(net):
    """What fewest_levels has to return by H3, None where it has to raise."""
    bad = set(plain_bad(net))
    if any(len(group) == 1 for group in bad):
        return None
    fit = [told for told in tellings(net[0]) if not bad & set(level_groups(told))]
    return min(fit, key=lambda told: (max(told), told))


def plain_levelled(net, told):
    lanes = [lane for _ in range(max(told) + 1) for lane in net[1]]
    tables = []
    for u in range(net[0]):
        tables.append(tuple(tuple(told[d] * len(net[1]) + k for k in net[2][u][d]) for d in range(net[0])))
    return (net[0], tuple(lanes), tuple(tables))


def some_tellings(net, seed):
    rows = tellings(net[0], 3)
    chance = random.Random(seed)
    return rows if len(rows) < 30 else chance.sample(rows, 20)


class Only(unittest.TestCase):

    def test_all_groups(self):
        for net in ALL_NETS:
            for group in groups(net)[:40]:
                told = result(only, net, group)
                self.assertEqual(repr(told), repr(plain_only(net, group)))
                self.assertIsNone(net_error(told))

    def test_none_and_all(self):
        for net in ALL_NETS:
            self.assertEqual(repr(result(only, net, tuple(range(net[0])))), repr(net))
            bare = result(only, net, ())
            self.assertEqual(repr(bare), repr((*net[:2], (((),) * net[0],) * net[0])))
            self.assertIs(free(bare), True)

    def test_by_hand(self):
        self.assertEqual(repr(result(only, ALONE, (0,))), repr(ALONE))
        self.assertEqual(result(only, SIDES, (0,))[2], (((), ()), ((3,), ())))
        self.assertEqual(result(only, SIDES, (1,))[2], (((), (0, 1)), ((), ())))


class BadGroups(unittest.TestCase):

    def test_against_all_groups(self):
        sizes = set()
        for net in ALL_NETS:
            bad = plain_bad(net)
            least = tuple(group for group in bad if not any(set(other) < set(group) for other in bad))
            self.assertEqual(repr(result(bad_groups, net)), repr(least), net)
            sizes |= {len(group) for group in least}
        self.assertLessEqual({1, 2, 3, 4}, sizes)

    def test_order(self):
        mixed = 0
        for net in ALL_NETS:
            told = bad_groups(net)
            self.assertEqual(list(told), sorted(told, key=lambda group: (len(group), group)))
            mixed += len({len(group) for group in told}) > 1 and len(told) > 2
        self.assertGreater(mixed, 5)

    def test_none_of_free_nets_and_only_of_these(self):
        for net in ALL_NETS:
            self.assertIs(bad_groups(net) == (), free(net))

    def test_a_group_is_bad_exactly_if_it_has_one_within(self):
        for net in SMALL:
            told = bad_groups(net)
            for group in groups(net):
                within = any(set(other) <= set(group) for other in told)
                self.assertIs(is_bad(net, group), within)
                self.assertIs(free(only(net, group)), not within)

    def test_if_a_group_is_not_bad_no_lesser_one_is(self):
        for net in SMALL:
            bad = set(plain_bad(net))
            for group in groups(net):
                if group not in bad:
                    lesser = itertools.chain(*(itertools.combinations(group, many) for many in range(len(group))))
                    self.assertFalse(bad & set(lesser))

    def test_by_hand(self):
        for net in (ALONE, BARE, UNTOLD, PAIR, FORK, HALL, TWO, SIDES, SIXTEEN):
            self.assertEqual(repr(result(bad_groups, net)), "()")
        for net in (LOST, DEAD, SPOKE):
            self.assertEqual(repr(result(bad_groups, net)), "((2,),)")
        self.assertEqual(result(bad_groups, TANGLE), ((2,),))
        self.assertEqual(result(bad_groups, WHEEL), ((0, 1, 2),))


class FewestLevels(unittest.TestCase):

    def test_against_all_partings(self):
        met = {}
        for net in NETS + SMALL:
            told = plain_fewest(net)
            if told is None:
                self.assertEqual(fields(Unfit, fewest_levels, net), {})
            else:
                self.assertEqual(repr(result(fewest_levels, net)), repr(told), net)
            many = None if told is None else max(told)
            met[many] = met.get(many, 0) + 1
        self.assertLessEqual({None, 0, 1, 2}, set(met))
        self.assertGreater(min(met[many] for many in (None, 0, 1, 2)), 3)

    def test_against_all_partings_of_great_nets(self):
        for net in GREAT[::2]:
            told = plain_fewest(net)
            come = outcome(fewest_levels, (net,), {})
            self.assertEqual(come, ("raised", Unfit, {}) if told is None else ("returned", told))

    def test_unfit_exactly_if_an_aim_alone_is_bad(self):
        for net in ALL_NETS:
            alone = [d for d in range(net[0]) if is_bad(net, (d,))]
            self.assertIs(outcome(fewest_levels, (net,), {})[0] == "raised", alone != [])
            # Exactly then some lane that serves it leads where it is not come to from.
            far = [d for d in range(net[0]) if any(
                d in plain_aims(net, k) and not plain_ways(net, net[1][k][1], d, net[0] - 1)
                for k in range(len(net[1]))
            )] if len(net[1]) < 9 else alone
            self.assertEqual(far, alone)

    def test_all_0_exactly_if_the_net_is_free(self):
        for net in ALL_NETS:
            self.assertIs(outcome(fewest_levels, (net,), {}) == ("returned", (0,) * net[0]), free(net))

    def test_levels_begin_in_the_order_of_their_least_aims(self):
        for net in ALL_NETS:
            word, *told = outcome(fewest_levels, (net,), {})
            if word == "returned":
                levels = list(dict.fromkeys(told[0]))
                self.assertEqual(levels, list(range(len(levels))))

    def test_by_hand(self):
        self.assertEqual(repr(result(fewest_levels, ALONE)), "(0,)")
        self.assertEqual(repr(result(fewest_levels, BARE)), "(0, 0)")
        for net in (LOST, DEAD, SPOKE, TANGLE):
            self.assertEqual(fields(Unfit, fewest_levels, net), {})
        self.assertEqual(repr(result(fewest_levels, WANDER)), "(0, 0, 0)")


class Levelled(unittest.TestCase):

    def test_all_ways_to_tell_levels(self):
        met = set()
        for net in ALL_NETS:
            for told in some_tellings(net, 118):
                if (max(told) + 1) * len(net[1]) > 16:
                    self.assertEqual(fields(TooMany, levelled, net, told), {"limit": 16})
                    met.add("raised")
                    continue
                whole = result(levelled, net, told)
                self.assertEqual(repr(whole), repr(plain_levelled(net, told)))
                self.assertIsNone(net_error(whole))
                bad = any(is_bad(net, group) for group in level_groups(told))
                self.assertIs(free(whole), not bad)
                met.add((max(told), bad))
        self.assertLess({"raised", (0, True), (0, False), (1, True), (1, False), (2, False)}, met)

    def test_just_sixteen_lanes_and_more(self):
        for many, levels, fits in ((16, 1, True), (8, 2, True), (4, 4, True), (5, 3, True), (3, 5, True), (2, 6, True),
                                   (9, 2, False), (6, 3, False), (5, 4, False), (4, 5, False), (3, 6, False),
                                   (16, 2, False), (0, 6, True), (1, 6, True)):
            net = (6, SIX[1][:many], plain_cut(SIX[2], many))
            told = tuple(min(d, levels - 1) for d in range(6))
            if fits:
                self.assertEqual(len(result(levelled, net, told)[1]), many * levels)
            else:
                self.assertEqual(fields(TooMany, levelled, net, told), {"limit": 16})

    def test_one_level_is_the_net(self):
        for net in ALL_NETS:
            self.assertEqual(repr(result(levelled, net, (0,) * net[0])), repr(net))

    def test_the_fewest_levels_are_free_and_with_fewer_it_never_is(self):
        count = 0
        for net in SMALL:
            word, *rest = outcome(fewest_levels, (net,), {})
            if word == "raised" or (max(rest[0]) + 1) * len(net[1]) > 16:
                continue
            self.assertIs(free(levelled(net, rest[0])), True)
            for told in tellings(net[0]):
                if max(told) < max(rest[0]):
                    self.assertIs(free(levelled(net, told)), False)
                    count += 1
        self.assertGreater(count, 30)

    def test_levels_lie_side_by_side(self):
        chance = random.Random(119)
        found = 0
        for net in SMALL:
            for told in some_tellings(net, 120)[:8]:
                many = len(net[1])
                if (max(told) + 1) * many > 16:
                    continue
                whole = levelled(net, told)
                stand = random_stand(chance, whole)
                both = []
                for level, group in enumerate(level_groups(told)):
                    part = stand[level * many:(level + 1) * many]
                    self.assertIsNone(stand_error(only(net, group), part))
                    both += [
                        (word, *[level * many + lane for lane in lanes])
                        for word, *lanes in moves(only(net, group), part)
                    ]
                    found += stuck(only(net, group), part)
                self.assertEqual(moves(whole, stand), tuple(sorted(both)))
        self.assertGreater(found, 10)

    def test_by_hand(self):
        self.assertEqual(
            result(levelled, PAIR, (1, 0)),
            (2, ((0, 1, 1), (1, 0, 2), (0, 1, 1), (1, 0, 2)), (((), (0,)), ((3,), ()))),
        )
        self.assertEqual(repr(result(levelled, ALONE, (0,))), repr(ALONE))
        self.assertEqual(repr(result(levelled, BARE, (1, 0))), repr(BARE))
        self.assertEqual(result(levelled, SIDES, (0, 1))[2], (((), (4, 5)), ((3,), ())))


def plain_cut(tables, many):
    """The tables without the lanes from many on."""
    return tuple(tuple(tuple(k for k in entry if k < many) for entry in table) for table in tables)


class Calls(unittest.TestCase):

    def test_great_nets_take_little_time(self):
        for net in GREAT:
            in_time(fewest_levels, net)
            self.assertEqual(in_time(bad_groups, net)[0], "returned")
            self.assertEqual(in_time(levelled, net, (0,) * net[0]), ("returned", net))

    def test_equal_calls_get_equal_results_also_with_others_between(self):
        calls = []
        for net in ALL_NETS[::3]:
            calls += [(bad_groups, (net,)), (fewest_levels, (net,)), (only, (net, tuple(range(net[0]))[::2]))]
            calls += [(levelled, (net, told)) for told in some_tellings(net, 121)[:3]]
        self.assertTrue(steady(calls))


if __name__ == "__main__":
    unittest.main()
