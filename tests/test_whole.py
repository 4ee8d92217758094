"""A2, A3 and A9 over the whole program: what its parts tell of one another, any values, and calls in any order."""

import itertools
import random
import unittest

from roomahead.askdeeds import ask_moves, ask_stand_error, ask_stuck
from roomahead.asklots import apart, ask_filling, ask_free, ask_lot
from roomahead.beats import homecomings, state_at
from roomahead.benches import Bench, bench_behind
from roomahead.choices import addable, choices_left, mending, widest, with_choice, without_choice
from roomahead.deedtexts import deeds_text, read_deeds
from roomahead.errors import RoomError
from roomahead.exchanges import exchange_row, least_still, still_plan
from roomahead.falls import risky, without
from roomahead.homes import dead_ends, longest, measure, ring, settles, wayless
from roomahead.levels import bad_groups, fewest_levels, levelled, only
from roomahead.lots import filling, free, greatest_lot, joined, lot_error, waves
from roomahead.makers import circle, grid, nearest, one_way, up_down
from roomahead.moving import deed_error, done, held_fast, led, moves, open_deeds, stuck
from roomahead.nets import ahead, aims, net_error, relaned, renamed, serves
from roomahead.nettexts import net_text, read_net
from roomahead.papers import paper, paper_error, row_error
from roomahead.prices import cheapest_lot, most_letters, price, soonest_stuck
from roomahead.rescues import homeward
from roomahead.shells import Shell
from roomahead.stages import changed, stage_filling, stage_lot
from roomahead.stands import empty, stand_error
from tests.helper import (
    ALONE, FORK, LOT_NETS, NETS, PAIR, SIX, SIXTEEN, WHEEL, WRONG_VALUES, exchanged, great_nets, in_time, led_nets,
    letters, outcome, plain_ask_deeds, plain_deeds, plain_stuck, random_nets, random_stand, small_nets, steady,
)

MADE = (nearest(*grid(2, 2, 1)), nearest(*circle(5, 1)), up_down(*grid(3, 2, 1), 0), one_way(6, 2), one_way(2, 4))
MADE += (up_down(*circle(4, 3), 1), widest(up_down(*grid(2, 2, 2), 3)))
GREAT = (SIX, SIXTEEN) + MADE + tuple(great_nets(220, 4)) + tuple(led_nets(221, 4, 6, 16))
ALL_NETS = NETS + LOT_NETS + GREAT + tuple(small_nets(222, 30)) + tuple(random_nets(223, 15)) + tuple(led_nets(224, 10))
# The functions of a net alone.
OF_NETS = (
    net_error, net_text, empty, free, waves, greatest_lot, paper, cheapest_lot, most_letters, soonest_stuck, dead_ends,
    settles, wayless, choices_left, addable, widest, mending, risky, bad_groups, fewest_levels,
)
# What takes any value: the function, and what is handed in ahead of the value.
OF_VALUES = (
    (net_error, ()), (read_net, ()), (stand_error, (WHEEL,)), (deed_error, (WHEEL, empty(WHEEL))), (read_deeds, ()),
    (lot_error, (WHEEL,)), (row_error, (WHEEL,)), (paper_error, (WHEEL,)), (with_choice, (FORK,)),
    (without_choice, (FORK,)), (ask_stand_error, (PAIR, PAIR)), (bench_behind, ()), (stand_error, (ALONE,)),
    (row_error, (ALONE,)), (lot_error, (ALONE,)), (ask_stand_error, (ALONE, ALONE)),
)


def some_bench():
    bench = Bench()
    bench.put("a", WHEEL)
    bench.free("a")
    return bench


def what_the_package_returned():
    """Things that the package returns, also with parts changed, and benches and shells within them."""
    bench, shell = some_bench(), Shell()
    lot = greatest_lot(WHEEL)
    told = [bench, shell, paper(WHEEL), paper(FORK), lot, filling(WHEEL, lot), read_deeds("in 0 1; out 0"), bench.log]
    told += [bench.at(1), net_text(WHEEL), WHEEL, waves(FORK), open_deeds(WHEEL, empty(WHEEL)), fewest_levels(WHEEL)]
    for row in (lot, WHEEL, bench.log, paper(WHEEL), ("in", 0, 1), (1, 2, 3), ((1,), (), ()), ("put", ("a", PAIR))):
        for place in range(len(row)):
            told += [row[:place] + (value,) + row[place + 1:] for value in (bench, shell, None, [row], {"a": row}, row)]
    return told


class AnyValues(unittest.TestCase):

    def test_only_errors_that_are_told_are_raised(self):
        values = what_the_package_returned() + list(WRONG_VALUES) + [("x" * 20000,), (10 ** 399,) * 3, (0,) * 3900]
        nested = "in"
        for _ in range(19):
            nested = (nested,)
        for value in values + [nested, ((nested,),), {"a": {"b": [nested]}}, "\n" * 20000, "in 0 1; " * 2400]:
            for function, rest in OF_VALUES:
                before = repr(value)
                told = outcome(function, (*rest, value), {})
                self.assertEqual(told, outcome(function, (*rest, value), {}))
                self.assertEqual(repr(value), before)

    def test_all_arguments_of_benches_and_shells(self):
        values = what_the_package_returned() + list(WRONG_VALUES)
        bench, shell = some_bench(), Shell()
        for value in values:
            for word, rest in (("net", ()), ("put", (WHEEL,)), ("drop", ()), ("way", (0, 1, 0)), ("bar", (0, 1, 0)),
                               ("room", (0, 1)), ("at", ()), ("free", ()), ("paper", ()), ("most", ())):
                outcome(getattr(bench, word), (value, *rest), {})
                for place in range(len(rest)):
                    outcome(getattr(bench, word), ("a", *rest[:place], value, *rest[place + 1:]), {})
            self.assertIs(type(shell.say(value)), str)
            self.assertIs(type(bench == value), bool)
        self.assertEqual(bench.at(1), (("a", WHEEL),))

    def test_the_wrong_value_is_kept_as_it_was_passed(self):
        bench = some_bench()
        for value in what_the_package_returned():
            for function in (bench.net, bench.drop, bench.free):
                with self.assertRaises(RoomError) as caught:
                    function(value)
                self.assertIs(caught.exception.given, value)


class WhatHolds(unittest.TestCase):

    def test_a_lot_or_a_row_and_what_both_come_to(self):
        for net in ALL_NETS:
            word, told = paper(net)
            self.assertEqual(free(net), word == "free")
            self.assertEqual(free(net), greatest_lot(net) == () == cheapest_lot(net))
            self.assertEqual(free(net), most_letters(net) is None and soonest_stuck(net) is None)
            if free(net):
                self.assertIsNone(row_error(net, told))
                self.assertEqual(sorted(range(len(net[1])), key=lambda k: (waves(net)[k], k)), list(told))
            else:
                stand = led(net, empty(net), filling(net, told))
                self.assertTrue(stuck(net, stand) and held_fast(net, stand) and plain_stuck(net, stand))
                self.assertEqual(len(soonest_stuck(net)), price(net, cheapest_lot(net)))
                self.assertTrue(stuck(net, led(net, empty(net), soonest_stuck(net))))

    def test_texts_names_and_lanes(self):
        chance = random.Random(225)
        for net in ALL_NETS:
            self.assertEqual(read_net(net_text(net)), net)
            order = tuple(chance.sample(range(net[0]), net[0]))
            row = tuple(chance.sample(range(len(net[1])), len(net[1])))
            other = relaned(renamed(net, order), row)
            self.assertIsNone(net_error(other))
            self.assertEqual((free(other), most_letters(other)), (free(net), most_letters(net)))
            many = sum(len(aims(net, k)) for k in range(len(net[1])))
            self.assertLessEqual(many, len(net[1]) * (net[0] - 1))

    def test_levels_mend_what_can_be_mended_so(self):
        count = 0
        for net in ALL_NETS:
            told = outcome(fewest_levels, (net,), {})
            if told[0] == "returned" and (max(told[1]) + 1) * len(net[1]) <= 16:
                self.assertEqual(paper(levelled(net, told[1]))[0], "free")
                count += not free(net)
        self.assertGreater(count, 4)

    def test_exchanges_among_made_nets(self):
        lanes = grid(2, 2, 1)
        nets = [up_down(*lanes, root) for root in range(4)]
        for old, new in itertools.product(nets, repeat=2):
            plan = still_plan(old, new)
            self.assertEqual(least_still(old, new), len(plan[1]))
            self.assertEqual(exchange_row(old, new) is not None, plan[1:] == ((), ()))
            self.assertEqual(tuple(sorted(sum(plan, ()))), changed(old, new))
            self.assertEqual(stage_lot(old, new, (), ()), ())
            self.assertEqual(stage_filling(old, new, (), (), ()), ((), ()))
            self.assertEqual(exchanged(old, new, changed(old, new)), new)

    def test_asks_and_answers_up_and_down_trees(self):
        # Answers go by lanes of their own: free as each of the two is, and as each house is led to from each other.
        houses, lanes = circle(4, 1)
        asks, answers = up_down(houses, lanes, 0), up_down(houses, lanes, 2)
        both = lanes + lanes
        shifted = tuple(tuple(tuple(8 + k for k in entry) for entry in table) for table in answers[2])
        one, other = (houses, both, asks[2]), (houses, both, shifted)
        self.assertEqual((apart(one, other), ask_free(one, other), ask_lot(one, other)), (True, True, ()))
        self.assertEqual(ask_filling(one, other, ()), ())
        self.assertIs(ask_free(asks, answers), False)
        self.assertEqual((ask_moves(one, other, empty(one)), ask_stuck(one, other, empty(one))), ((), False))

    def test_nets_that_settle_bring_all_letters_home(self):
        chance = random.Random(226)
        for net in ALL_NETS:
            if settles(net):
                stand = random_stand(chance, net)
                most = measure(net, stand)
                row = outcome(homeward, (net, stand), {})
                if row[0] == "returned":
                    self.assertLessEqual(len(row[1]), most)
                for _ in range(most):
                    if moves(net, stand):
                        stand = done(net, stand, chance.choice(moves(net, stand)))
                self.assertEqual(letters(stand), 0)
                traffic = tuple((0, u, d) for u, d in itertools.permutations(range(net[0]), 2) if net[2][u][d])
                self.assertNotIn(None, homecomings(net, traffic, "low") + homecomings(net, traffic, "eldest"))

    def test_a_bench_and_a_shell_tell_the_same(self):
        for net in ALL_NETS:
            shell, bench = Shell(), Bench()
            self.assertEqual(shell.say(f"put net {net_text(net)}"), f"version {bench.put('net', net)}")
            self.assertEqual(shell.say("free net"), "free" if bench.free("net") else "stuck")
            self.assertEqual(shell.say("show net"), net_text(bench.net("net")))
            lot = filling(net, cheapest_lot(net))
            told = "empty" if lot == () else "stuck"
            self.assertEqual(shell.say(f"play net {deeds_text(lot)}"), told)


class Calls(unittest.TestCase):

    def all_calls(self, net):
        chance = random.Random(227)
        stand = random_stand(chance, net)
        calls = [(function, (net,)) for function in OF_NETS]
        calls += [(function, (net, stand)) for function in (moves, open_deeds, stuck, held_fast, homeward, measure)]
        calls += [(function, (net, stand, deed)) for function in (deed_error, done) for deed in plain_deeds(net)[::9]]
        calls += [(function, (net, aim)) for function in (ring, longest) for aim in range(net[0])]
        calls += [(function, (net, k, d)) for function in (serves, ahead)
                  for k in range(len(net[1])) for d in range(net[0])]
        calls += [(only, (net, (0,))), (levelled, (net, (0,) * net[0])), (without, (net, ())), (changed, (net, net))]
        calls += [(function, (net, net)) for function in (ask_free, ask_lot, apart, exchange_row, least_still, still_plan)]
        calls += [(state_at, (net, ((0, 0, 1), (1, 1, 0)), rule, 5)) for rule in ("low", "eldest") if net[0] > 1]
        calls += [(homecomings, (net, ((0, 0, 1), (1, 1, 0)), rule)) for rule in ("low", "eldest") if net[0] > 1]
        lot = greatest_lot(net)
        if lot:
            calls += [(joined, (lot, cheapest_lot(net))), (filling, (net, lot)), (price, (net, lot))]
        return calls

    def test_equal_calls_get_equal_results_with_calls_on_other_nets_between(self):
        self.assertTrue(steady([call for net in ALL_NETS[::4] for call in self.all_calls(net)]))

    def test_great_nets_take_little_time(self):
        for net in GREAT:
            for function, given in self.all_calls(net):
                in_time(function, *given)

    def test_nets_of_one_house_and_without_lanes(self):
        for net in (ALONE, (1, (), (((),),)), (6, (), (((),) * 6,) * 6)):
            for function, given in self.all_calls(net):
                told = outcome(function, given, {})
                self.assertEqual(told[0], "returned", (function, given))
            self.assertEqual(plain_deeds(net) + plain_ask_deeds(net), [])


if __name__ == "__main__":
    unittest.main()
