"""J4, J5, and A2 (f) so far as it speaks of rows and plans."""

import itertools
import random
import unittest

from roomahead.errors import TooMany, Unfit
from roomahead.exchanges import exchange_row, least_still, still_plan
from roomahead.lots import free
from roomahead.makers import circle, grid, nearest, one_way, up_down
from roomahead.stages import changed, stage_lot
from roomahead.stands import empty
from tests.helper import (
    ALONE, BARE, FORK, HALL, LOST, NETS, PAIR, SIX, SIXTEEN, TWO, WHEEL, exchanged, fields, great_pairs, in_time, led_net,
    led_tables, letters, outcome, pairs_of_nets, plain_changed, plain_deeds, plain_done, plain_stage_lot, plain_stuck,
    plain_waves, result, steady,
)

LANES = ((0, 1, 1), (1, 2, 1), (2, 0, 1), (1, 0, 1), (2, 1, 1), (0, 2, 1))
OLD = (3, LANES, (((), (0,), (0,)), ((1,), (), (1,)), ((2,), (4,), ())))
NEW = (3, LANES, (((), (0,), (5,)), ((1,), (), (1,)), ((2,), (2,), ())))
STRAIGHT = (3, LANES, (((), (0,), (5,)), ((1,), (), (1,)), ((2,), (4,), ())))
WRONG = (3, LANES, (((), (0,), (0,)), ((1,), (), (1,)), ((2,), (2,), ())))
# Here two, three, and four houses have to be exchanged while the net is empty.
FOUR = ((0, 1, 2), (3, 2, 1), (0, 3, 1), (2, 0, 3), (1, 3, 2), (3, 1, 3), (1, 2, 1))
THREE_STILL = (
    (4, FOUR, (((), (2,), (0,), (2,)), ((4,), (), (6,), (4,)), ((3,), (3,), (), (3,)), ((1,), (5,), (5,), ()))),
    (4, FOUR, (((), (0,), (0,), (0,)), ((6,), (), (4,), (4,)), ((3,), (3,), (), (3,)), ((5,), (5,), (1,), ()))),
)
FIVE = (
    (1, 4, 3), (2, 3, 1), (2, 0, 3), (2, 4, 3), (0, 3, 2), (0, 1, 3), (3, 1, 3), (3, 1, 1), (4, 0, 3), (1, 2, 1),
    (0, 4, 2), (0, 4, 2), (0, 3, 1),
)
FOUR_STILL = (
    (5, FIVE, (
        ((), (5,), (4,), (5,), (10,)), ((0,), (), (9,), (9,), (9,)), ((2,), (2,), (), (1,), (3,)),
        ((7,), (7,), (6,), (), (7,)), ((8,), (8,), (8,), (8,), ()),
    )),
    (5, FIVE, (
        ((), (4,), (5,), (12,), (11,)), ((9,), (), (9,), (0,), (0,)), ((2,), (1,), (), (1,), (2,)),
        ((6,), (6,), (6,), (), (7,)), ((8,), (8,), (8,), (8,), ()),
    )),
)


def free_pairs(seed, many):
    """Pairs of nets both of which are free, four houses changed at most; their rooms are 1 or 2."""
    chance = random.Random(seed)
    found = []
    while len(found) < many:
        houses = chance.randint(3, 6)
        old = led_net(chance, houses, chance.randint(houses + 1, min(16, 3 * houses)), 2)
        among = chance.sample(range(houses), min(4, houses))
        new = exchanged(old, (houses, old[1], led_tables(chance, houses, old[1])), among)
        if 0 not in plain_waves(old) + plain_waves(new):
            found.append((old, new))
    return found


BY_HAND = [(OLD, NEW), (OLD, STRAIGHT), (OLD, WRONG), (NEW, OLD), (STRAIGHT, NEW), THREE_STILL, FOUR_STILL]
BY_HAND += [pair[::-1] for pair in (THREE_STILL, FOUR_STILL)]
GREAT = great_pairs(140, 15)
PAIRS = BY_HAND + free_pairs(141, 150) + pairs_of_nets(142, 60) + GREAT


class Freedom:
    """Which stages of a pair of nets have no lot, each looked at once."""

    def __init__(self, old, new):
        self.old, self.new, self.told = old, new, {}

    def of(self, before, now):
        stage = (tuple(sorted(before)), tuple(sorted(now)))
        if stage not in self.told:
            self.told[stage] = plain_stage_lot(self.old, self.new, *stage) == ()
        return self.told[stage]

    def row(self, row):
        return all(self.of((), row[:k]) for k in range(len(row) + 1))

    def plan(self, plan):
        ahead, still, behind = plan
        base = ahead + still
        return self.row(ahead) and all(self.of(base, base + behind[:k]) for k in range(len(behind) + 1))


def all_plans(houses):
    """All plans of the houses: of each order the first ones ahead, the last ones behind."""
    return sorted({
        (order[:one], tuple(sorted(order[one:other])), order[other:])
        for order in itertools.permutations(houses)
        for one in range(len(order) + 1) for other in range(one, len(order) + 1)
    })


def plain_least(old, new):
    """What least_still has to return by J4."""
    houses, told = plain_changed(old, new), Freedom(old, new)
    if any(told.row(order) for order in itertools.permutations(houses)):
        return 0
    stills = [len(plan[1]) for plan in all_plans(houses) if plan[1] and told.plan(plan)]
    return min(stills, default=None)


class Rows(unittest.TestCase):

    def test_against_all_orders(self):
        met = set()
        for old, new in PAIRS:
            told = Freedom(old, new)
            rows = [order for order in itertools.permutations(plain_changed(old, new)) if told.row(order)]
            row = result(exchange_row, old, new)
            self.assertTrue(row in rows if rows else row is None, (old, new))
            met.add((len(plain_changed(old, new)), row is None))
        self.assertEqual(met, {(many, none) for many in range(5) for none in (True, False)})

    def test_each_stage_of_a_row(self):
        for old, new in PAIRS:
            row = exchange_row(old, new)
            if row is not None:
                self.assertIs(type(row), tuple)
                self.assertEqual(tuple(sorted(row)), changed(old, new))
                for many in range(len(row) + 1):
                    self.assertEqual(stage_lot(old, new, (), tuple(sorted(row[:many]))), ())

    def test_the_order_matters(self):
        count = 0
        for old, new in PAIRS:
            told, row = Freedom(old, new), exchange_row(old, new)
            orders = list(itertools.permutations(changed(old, new)))
            count += row is not None and not all(told.row(order) for order in orders)
        self.assertGreater(count, 10)

    def test_nothing_changed(self):
        for net in NETS:
            row = () if free(net) else None
            self.assertEqual(repr(result(exchange_row, net, net)), repr(row))
            self.assertEqual(repr(result(least_still, net, net)), repr(0 if free(net) else None))
            self.assertEqual(repr(result(still_plan, net, net)), repr(((), (), ()) if free(net) else None))


class Plans(unittest.TestCase):

    def test_least_still_against_all_plans(self):
        met = {}
        for old, new in PAIRS:
            least = plain_least(old, new)
            self.assertEqual(repr(result(least_still, old, new)), repr(least), (old, new))
            kind = (len(plain_changed(old, new)), least)
            met[kind] = met.get(kind, 0) + 1
        self.assertEqual({least for _, least in met}, {None, 0, 1, 2, 3, 4})
        self.assertEqual({many for many, least in met if least == 1}, {1, 2, 3, 4})
        self.assertEqual({many for many, least in met if least is None}, {0, 1, 2, 3, 4})

    def test_each_plan_is_one_of_all_the_free_ones(self):
        sides = set()
        for old, new in PAIRS:
            told, plan, least = Freedom(old, new), result(still_plan, old, new), plain_least(old, new)
            if least is None:
                self.assertIsNone(plan)
                continue
            self.assertIn(plan, all_plans(plain_changed(old, new)))
            self.assertTrue(told.plan(plan))
            self.assertEqual(len(plan[1]), least)
            if least == 0:
                self.assertEqual(plan, (exchange_row(old, new), (), ()))
            else:
                sides.add((plan[0] == (), plan[2] == ()))
        self.assertEqual(len(sides), 4)

    def test_each_stage_of_a_plan(self):
        for old, new in PAIRS:
            plan = still_plan(old, new)
            if plan is None:
                continue
            ahead, still, behind = plan
            self.assertEqual(tuple(sorted(ahead + still + behind)), changed(old, new))
            self.assertEqual(list(still), sorted(still))
            base = tuple(sorted(ahead + still))
            for many in range(len(ahead) + 1):
                self.assertEqual(stage_lot(old, new, (), tuple(sorted(ahead[:many]))), ())
            for many in range(len(behind) + 1):
                now = tuple(sorted(base + behind[:many]))
                # A row is asked at the stages behind the empty net, too: they have no lots that it has not.
                self.assertEqual(stage_lot(old, new, base, now), ())

    def test_none_exactly_if_old_or_new_is_not_free(self):
        for old, new in PAIRS:
            self.assertIs(least_still(old, new) is None, not (free(old) and free(new)))

    def test_at_most_all_changed_houses(self):
        for old, new in PAIRS:
            self.assertLessEqual(least_still(old, new) or 0, len(changed(old, new)))

    def test_the_first_house_behind_may_be_exchanged_still_as_well(self):
        count = 0
        for old, new in PAIRS:
            told = Freedom(old, new)
            for ahead, still, behind in all_plans(changed(old, new)):
                if behind and told.plan((ahead, still, behind)):
                    self.assertTrue(told.plan((ahead, tuple(sorted(still + behind[:1])), behind[1:])))
                    count += 1
        self.assertGreater(count, 100)

    def test_by_hand(self):
        self.assertEqual(result(exchange_row, STRAIGHT, OLD), (0,))
        self.assertIsNone(result(exchange_row, NEW, OLD))
        self.assertIn(result(still_plan, NEW, OLD), (((2,), (0,), ()), ((), (2,), (0,))))
        self.assertEqual(result(exchange_row, STRAIGHT, NEW), (2,))
        self.assertEqual(repr(result(still_plan, ALONE, ALONE)), "((), (), ())")
        self.assertEqual(repr(result(exchange_row, BARE, BARE)), "()")
        for function in (exchange_row, least_still, still_plan):
            self.assertIsNone(result(function, WHEEL, WHEEL))
            self.assertIsNone(result(function, LOST, LOST))
        self.assertEqual(result(least_still, *THREE_STILL), 3)
        self.assertEqual(result(least_still, *FOUR_STILL), 4)
        self.assertEqual(result(still_plan, *FOUR_STILL), ((), changed(*FOUR_STILL), ()))

    def test_an_exchange_that_must_wait_until_the_net_is_empty(self):
        # Letters for 2 that the house 0 sent to 1 would find no lane there, letters that it sends straight do.
        lanes = ((0, 1, 2), (1, 2, 1), (0, 2, 1))
        old = (3, lanes, (((), (0,), (0,)), ((), (), (1,)), ((), (), ())))
        new = (3, lanes, (((), (0,), (2,)), ((), (), ()), ((), (), ())))
        self.assertIsNone(result(exchange_row, old, new))
        self.assertEqual(result(least_still, old, new), 1)
        self.assertIn(result(still_plan, old, new), (((0,), (1,), ()), ((), (0,), (1,))))
        self.assertEqual(result(exchange_row, new, old), (1, 0))
        self.assertEqual(result(still_plan, new, old), ((1, 0), (), ()))


class Errors(unittest.TestCase):

    def test_unlike_nets(self):
        (start, end, room), *others = SIX[1]
        other = (6, ((start, end, room + 1), *others), (((),) * 6,) * 6)
        for old, new in ((ALONE, BARE), (HALL, FORK), (PAIR, TWO), (WHEEL, HALL), (SIX, other), (SIX, SIXTEEN)):
            for function in (exchange_row, least_still, still_plan):
                self.assertEqual(fields(Unfit, function, old, new), {})
                self.assertEqual(fields(Unfit, function, new, old), {})

    def test_too_many_changed_houses(self):
        bare = (*SIX[:2], (((),) * 6,) * 6)
        for many in (5, 6):
            for among in itertools.combinations(range(6), many):
                for function in (exchange_row, least_still, still_plan):
                    self.assertEqual(fields(TooMany, function, SIX, exchanged(SIX, bare, among)), {"limit": 4})
        self.assertEqual(outcome(least_still, (SIX, exchanged(SIX, bare, (0, 1, 2, 3))), {})[0], "returned")


class Runs(unittest.TestCase):

    def lead(self, chance, old, new, steps):
        """Letters go as they like ahead of each step, a pair: whether the net is left empty then, and new houses."""
        stand, having = empty(old), ()
        for emptied, houses in steps:
            tables = exchanged(old, new, having)
            for _ in range(12):
                going = [plain_done(tables, stand, deed) for deed in plain_deeds(old)]
                stand = chance.choice([behind for behind in going if behind is not None] + [stand])
                self.assertFalse(plain_stuck(tables, stand))
            while emptied and letters(stand):
                outs = [plain_done(tables, stand, deed) for deed in plain_deeds(old) if deed[0] != "in"]
                stand = chance.choice([behind for behind in outs if behind is not None])
            having += houses

    def test_nobody_is_stuck_while_a_plan_is_done(self):
        chance = random.Random(143)
        count = 0
        for old, new in PAIRS[:60]:
            plan = still_plan(old, new)
            if plan is not None:
                ahead, still, behind = plan
                steps = [(False, (u,)) for u in ahead] + [(True, still)] * (still != ())
                self.lead(chance, old, new, steps + [(False, (u,)) for u in behind] + [(True, ())])
                count += 1
        self.assertGreater(count, 40)


class Calls(unittest.TestCase):

    def test_great_nets_take_little_time(self):
        for old, new in GREAT + [FOUR_STILL] + [pair[::-1] for pair in GREAT]:
            for function in (exchange_row, least_still, still_plan):
                self.assertEqual(in_time(function, old, new)[0], "returned")
        for one, other in ((nearest(*circle(4, 1)), up_down(*circle(4, 1), 0)), (one_way(6, 4), one_way(6, 4)),
                           (up_down(*grid(2, 2, 1), 0), up_down(*grid(2, 2, 1), 3))):
            self.assertEqual(in_time(still_plan, one, other)[0], "returned")

    def test_equal_calls_get_equal_results_also_with_others_between(self):
        calls = []
        for old, new in PAIRS[::3]:
            calls += [(function, (old, new)) for function in (exchange_row, least_still, still_plan)]
        self.assertTrue(steady(calls))


if __name__ == "__main__":
    unittest.main()
