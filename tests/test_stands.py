"""B1 and B2."""

import itertools
import random
import unittest

from roomahead.stands import empty, stand_error
from tests.helper import (
    ALONE, BARE, BLIND, HALL, NETS, PAIR, SIX, SIXTEEN, SMALL_NETS, UNTOLD, WHEEL, WRONG_VALUES, all_stands,
    plain_aims, random_nets, result, some_stands,
)

ALL_NETS = NETS + tuple(random_nets(6, 40))


class StandError(unittest.TestCase):

    def check(self, net, value, told):
        self.assertEqual(repr(result(stand_error, net, value)), repr(told), (net, value))

    def test_stands_have_no_error(self):
        for net in ALL_NETS:
            for stand in some_stands(net):
                self.check(net, stand, None)

    def test_form(self):
        for net in ALL_NETS:
            many = len(net[1])
            for value in (None, 0, True, "", "abc", {}, [], [()] * many, ((),) * (many + 1), dict.fromkeys(range(many))):
                self.check(net, value, "form")
            if many > 0:
                self.check(net, ((),) * (many - 1), "form")
                self.check(net, (None,) * (many - 1), "form")
            self.check(net, (None,) * (many + 1), "form")

    def test_any_value(self):
        for value in WRONG_VALUES:
            for net in (ALONE, BARE, WHEEL, PAIR):
                if not (isinstance(value, tuple) and len(value) == len(net[1])):
                    self.check(net, value, "form")
            self.check(ALONE, (value,), "form")
            if value != ():
                self.check(WHEEL, ((), value, value), None if repr(value) == "(0,)" else ("lane", 1))
            self.check(PAIR, ((), (value,)), None if repr(value) == "0" else ("lane", 1))
            self.check(PAIR, ((), (0, value)), None if repr(value) == "0" else ("lane", 1))

    def test_the_first_lane_is_told(self):
        for net in (WHEEL, HALL, SIX, SIXTEEN):
            many = len(net[1])
            for one, two in itertools.combinations(range(many), 2):
                value = [()] * many
                value[one], value[two] = [], (0, 0, 0, 0, 0)
                self.check(net, tuple(value), ("lane", one))
                value[one], value[two] = value[two], value[one]
                self.check(net, tuple(value), ("lane", one))

    def test_one_letter_too_many(self):
        for net in ALL_NETS:
            for k, (_, _, room) in enumerate(net[1]):
                for aim in plain_aims(net, k):
                    for many in range(room + 3):
                        value = [()] * len(net[1])
                        value[k] = (aim,) * many
                        self.check(net, tuple(value), None if many <= room else ("lane", k))

    def test_aims_that_the_lane_does_not_serve(self):
        for net in ALL_NETS:
            for k, (_, _, room) in enumerate(net[1]):
                served = plain_aims(net, k)
                for aim in (*range(-2, 8), 10 ** 399, -(10 ** 399)):
                    value = [()] * len(net[1])
                    value[k] = (aim,)
                    self.check(net, tuple(value), None if aim in served else ("lane", k))
                    if served and room > 1:
                        value[k] = (served[0], aim)
                        self.check(net, tuple(value), None if aim in served else ("lane", k))

    def test_what_is_no_integer_or_no_tuple(self):
        for odd in (True, False, None, "1", "0", (), (1,), [1], {}, {1: 1}):
            self.check(WHEEL, ((odd,), (), ()), ("lane", 0))
            self.check(WHEEL, ((), (odd,), ()), ("lane", 1))
            self.check(HALL, ((), (), (), (0, odd)), ("lane", 3))
        for odd in ([1], [], {1: 1}, {}, 1, "1", "", None, True):
            self.check(WHEEL, (odd, (), ()), ("lane", 0))
            self.check(WHEEL, ((), (), odd), ("lane", 2))

    def test_lanes_that_serve_nothing_stay_empty(self):
        self.assertEqual(all_stands(UNTOLD), [((), ())])
        for aim in range(3):
            self.check(UNTOLD, ((aim,), ()), ("lane", 0))
            self.check(UNTOLD, ((), (aim,)), ("lane", 1))

    def test_order_of_letters_does_not_matter(self):
        for lane in itertools.product((1, 2), repeat=2):
            self.check(BLIND, (lane, ()), None)

    def test_against_all_small_values(self):
        for net in SMALL_NETS:
            stands = set(all_stands(net)) if net != HALL else None
            if stands is None or len(net[1]) > 3:
                continue
            items = [row for many in range(4) for row in itertools.product(range(-1, net[0] + 1), repeat=many)]
            chance = random.Random(7)
            for _ in range(1500):
                value = tuple(chance.choice(items) for _ in net[1])
                self.assertEqual(result(stand_error, net, value) is None, value in stands, (net, value))


class Empty(unittest.TestCase):

    def test_nothing_lies_in_any_lane(self):
        for net in ALL_NETS:
            self.assertEqual(repr(result(empty, net)), repr(tuple(() for _ in net[1])))
            self.assertIsNone(stand_error(net, empty(net)))
        self.assertEqual(empty(ALONE), ())
        self.assertEqual(empty(PAIR), ((), ()))


if __name__ == "__main__":
    unittest.main()
