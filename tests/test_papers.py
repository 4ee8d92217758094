"""C4, C5 so far as it speaks of striking rows, and A2 (b)."""

import itertools
import random
import unittest

from roomahead.lots import free, greatest_lot, lot_error, waves
from roomahead.papers import paper, paper_error, row_error
from tests.helper import (
    ALONE, BARE, DEAD, FORK, HALL, LOST, LOT_NETS, NETS, PAIR, SIX, SIXTEEN, TANGLE, UNTOLD, WANDER, WHEEL,
    WRONG_VALUES, downhill_net, great_nets, grown_net, in_time, plain_lot_error, plain_lots, plain_row_error,
    random_nets, result, small_nets, steady,
)

CHANCE = random.Random(40)
SMALL = LOT_NETS + tuple(small_nets(41, 100))
GREAT = (SIX, SIXTEEN) + tuple(great_nets(42, 8)) + tuple(grown_net(CHANCE) for _ in range(6))
GREAT += tuple(downhill_net(CHANCE, 6, 16) for _ in range(4))
ALL_NETS = NETS + SMALL + GREAT + tuple(random_nets(43, 40))
HUGE = 10 ** 399


class RowError(unittest.TestCase):

    def check(self, net, value, told):
        self.assertEqual(repr(result(row_error, net, value)), repr(told), (net, value))

    def test_all_rows_of_small_nets(self):
        found = {True: 0, False: 0}
        for net in SMALL:
            rows = list(itertools.permutations(range(len(net[1]))))
            told = [row_error(net, row) for row in rows]
            self.assertEqual(repr(told), repr([plain_row_error(net, row) for row in rows]))
            # Either a striking row or a lot.
            self.assertIs(None in told, plain_lots(net) == [])
            found[None in told] += 1
        self.assertGreater(min(found.values()), 20)

    def test_rows_of_great_nets(self):
        chance = random.Random(44)
        for net in ALL_NETS:
            lanes = range(len(net[1]))
            for _ in range(8):
                row = tuple(chance.sample(lanes, len(lanes)))
                self.check(net, row, plain_row_error(net, row))
            if free(net):
                row = [lane for _, lane in sorted((wave, -lane) for lane, wave in enumerate(waves(net)))]
                row = tuple(-lane for lane in row)
                self.check(net, row, None)
                if len(row) > 1:
                    place = chance.randrange(1, len(row))
                    other = row[place:place + 1] + row[:place] + row[place + 1:]
                    self.check(net, other, plain_row_error(net, other))

    def test_form(self):
        for value in (
            (), (0,), (0, 1, 2), (0, 1, 2, 3, 3), (1, 3, 0, 2, 4), (1, 3, 0, 0), (1, 3, 0, 4), (1, 3, 0, -1), (1, 3, 0, -2),
            (1, 3, 0, HUGE), (1, 3, 0, -HUGE), [1, 3, 0, 2], {1: 0, 3: 0, 0: 0, 2: 0}, "1302", 1302, None, True, "", {},
            (1, 3, 0, "2"), (1, 3, 0, None), (1, 3, 0, (2,)), (1, 3, 0, [2]), (1, 3, 0, {}), ((1, 3, 0, 2),),
            (1, 3, False, 2), (True, 3, 0, 2), (True, 3, False, 2), (2, 1, 3, False),
        ):
            self.check(FORK, value, "form")

    def test_form_ahead_of_lanes(self):
        self.check(FORK, (0, 1, 2, 3), ("lane", 0))
        self.check(FORK, (0, 1, 2, True), "form")
        self.check(FORK, (0, 1, 2), "form")
        self.check(FORK, (0, 0, 0, 0), "form")
        self.check(FORK, (0, 1, 2, 4), "form")

    def test_the_first_lane_is_told(self):
        self.check(FORK, (1, 3, 2, 0), ("lane", 2))
        self.check(FORK, (3, 0, 2, 1), ("lane", 1))
        self.check(FORK, (3, 2, 0, 1), ("lane", 1))
        self.check(HALL, (1, 0, 3, 2), ("lane", 1))
        self.check(HALL, (1, 2, 0, 3), None)
        self.check(HALL, (2, 0, 1, 3), None)
        self.check(HALL, (2, 0, 3, 1), ("lane", 2))
        for row in itertools.permutations(range(3)):
            self.check(WHEEL, row, ("lane", 0))

    def test_any_value(self):
        for net in (ALONE, BARE, DEAD, PAIR, FORK, SIX):
            for value in WRONG_VALUES:
                for told in (value, (value,), (value, value), (0, value), (value, 0, 1, 2)):
                    self.check(net, told, plain_row_error(net, told))

    def test_nets_without_lanes(self):
        for net in (ALONE, BARE):
            self.check(net, (), None)
            for value in ((0,), [], None, ((),), (-1,)):
                self.check(net, value, "form")

    def test_nets_with_empty_tables(self):
        self.check(UNTOLD, (0, 1), None)
        self.check(UNTOLD, (1, 0), None)
        self.check(UNTOLD, (0,), "form")
        self.check(UNTOLD, (0, 2), "form")


class Paper(unittest.TestCase):

    def test_it_is_right_either_way(self):
        kinds = set()
        for net in ALL_NETS:
            told = result(paper, net)
            self.assertEqual((type(told), len(told), type(told[1])), (tuple, 2, tuple))
            if told[0] == "free":
                self.assertIsNone(plain_row_error(net, told[1]))
            else:
                self.assertEqual(told[0], "stuck")
                self.assertIsNone(plain_lot_error(net, told[1]))
            self.assertEqual(told[0] == "free", free(net))
            self.assertIsNone(result(paper_error, net, told))
            kinds.add((told[0], len(net[1]) == 16))
        self.assertEqual(len(kinds), 4)

    def test_by_hand(self):
        self.assertEqual(result(paper, ALONE), ("free", ()))
        self.assertEqual(result(paper, BARE), ("free", ()))
        self.assertEqual(result(paper, DEAD), ("stuck", ((0, 2),)))
        self.assertEqual(result(paper, WHEEL), ("stuck", ((0, 2), (1, 0), (2, 1))))
        self.assertIn(result(paper, FORK), (("free", (1, 3, 0, 2)), ("free", (3, 1, 0, 2)), ("free", (1, 0, 3, 2))))

    def test_lanes_in_the_order_of_their_waves_are_a_striking_row(self):
        chance = random.Random(45)
        for net in ALL_NETS:
            if free(net):
                told = waves(net)
                row = sorted(range(len(told)), key=lambda lane: (told[lane], chance.random()))
                self.assertIsNone(row_error(net, tuple(row)))


class PaperError(unittest.TestCase):

    def check(self, net, value, told):
        self.assertEqual(repr(result(paper_error, net, value)), repr(told), (net, value))

    def test_it_tells_what_row_error_and_lot_error_tell(self):
        chance = random.Random(46)
        for net in SMALL:
            lanes = range(len(net[1]))
            lots = plain_lots(net)[:5] + [greatest_lot(net)] + [((0, 0),), ((0, 2), (1, 0)), ((9, 9),)]
            for lot in lots:
                self.check(net, ("stuck", lot), plain_lot_error(net, lot))
                self.check(net, ("free", lot), plain_row_error(net, lot))
                self.assertEqual(paper_error(net, ("stuck", lot)), lot_error(net, lot))
            for _ in range(5):
                row = tuple(chance.sample(lanes, len(lanes)))
                self.check(net, ("free", row), plain_row_error(net, row))
                self.check(net, ("stuck", row), "form")
                self.assertEqual(paper_error(net, ("free", row)), row_error(net, row))

    def test_places(self):
        self.check(FORK, ("free", (1, 3, 2, 0)), ("lane", 2))
        self.check(TANGLE, ("stuck", ((1, 0), (2, 1))), ("open", 1))
        self.check(TANGLE, ("stuck", ((0, 2), (2, 1), (3, 0))), ("pair", 2))
        self.check(TANGLE, ("stuck", ((0, 2), (3, 2))), None)
        self.check(WANDER, ("free", (2, 0, 1)), None)
        self.check(WANDER, ("free", (2, 1, 0)), ("lane", 1))

    def test_the_lot_or_the_row_of_another_sort_of_net(self):
        self.check(FORK, ("stuck", ()), "form")
        self.check(FORK, ("stuck", ((0, 2), (1, 0), (2, 1))), ("pair", 1))
        self.check(WHEEL, ("free", (0, 1, 2)), ("lane", 0))
        self.check(WHEEL, ("stuck", ((0, 2), (1, 0), (2, 1))), None)
        self.check(ALONE, ("free", ()), None)
        self.check(ALONE, ("stuck", ()), "form")

    def test_form(self):
        row, lot = (1, 3, 0, 2), ((0, 2), (3, 2))
        for value in (
            None, "free", "stuck", (), ("free",), ("stuck",), ("free", row, ()), ("stuck", lot, ()), ["free", row],
            ["stuck", lot], {"free": row}, ("Free", row), ("STUCK", lot), ("no", row), ("", row), (b"free", row),
            ("free ", row), (None, row), (True, row), (0, row), (("free",), row), (["free"], row), ({}, lot),
            (row, "free"), (lot, "stuck"), ("free", list(row)), ("stuck", list(lot)), ("free", None), ("stuck", None),
            ("free", lot), ("stuck", row), ("freestuck", row), "fr", (("free", row),),
        ):
            self.check(FORK, value, "form")
            self.check(TANGLE, value, "form")

    def test_any_value(self):
        for net in (ALONE, BARE, LOST, WHEEL):
            for value in WRONG_VALUES:
                self.check(net, value, "form")
                self.check(net, (value, value), "form")
                self.check(net, (value, ()), "form")
                self.check(net, ("free", value), plain_row_error(net, value))
                self.check(net, ("stuck", value), plain_lot_error(net, value))


class Calls(unittest.TestCase):

    def test_great_nets_take_little_time(self):
        for net in GREAT:
            told = in_time(paper, net)[1]
            self.assertEqual(in_time(paper_error, net, told), ("returned", None))

    def test_equal_calls_get_equal_results_also_with_others_between(self):
        calls = [(paper, (net,)) for net in ALL_NETS[:80]]
        calls += [(paper_error, (net, paper(other))) for net in SMALL[:12] for other in SMALL[:12]]
        calls += [(row_error, (net, row)) for net in SMALL[:20] for row in itertools.permutations(range(len(net[1])))]
        self.assertTrue(steady(calls))


if __name__ == "__main__":
    unittest.main()
