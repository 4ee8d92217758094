"""B3 to B5, and B7 so far as it speaks of stands and deeds."""

import itertools
import random
import unittest

from roomahead.errors import Refused
from roomahead.moving import deed_error, done, held_fast, led, moves, open_deeds, stuck
from roomahead.nets import aims
from roomahead.stands import empty, stand_error
from tests.helper import (
    ALONE, BARE, BLIND, FORK, HALL, NETS, PAIR, SIX, SIXTEEN, TWO, UNTOLD, WHEEL, WRONG_VALUES, fields, letters,
    plain_deeds, plain_done, random_nets, random_stand, random_walk, result, some_stands,
)

RANDOM_NETS = tuple(random_nets(8, 12))
ALL_NETS = NETS + RANDOM_NETS
FULL = ((2,), (0,), (1,))
HUGE = 10 ** 399


def nets_and_stands(seed=9):
    """Pairs of a net and a stand of it, of all kinds."""
    pairs = [(net, stand) for net in NETS for stand in some_stands(net, seed)[:60]]
    chance = random.Random(seed)
    return pairs + [(net, random_stand(chance, net)) for net in RANDOM_NETS for _ in range(6)]


class DeedError(unittest.TestCase):

    def check(self, net, stand, value, told):
        self.assertEqual(repr(result(deed_error, net, stand, value)), repr(told), (net, stand, value))

    def test_all_deeds_of_a_net(self):
        for net, stand in nets_and_stands():
            for deed in plain_deeds(net):
                told = None if plain_done(net, stand, deed) is not None else "bar"
                self.assertEqual(deed_error(net, stand, deed), told, (net, stand, deed))

    def test_in_for_each_reason(self):
        self.check(HALL, ((), (), (), ()), ("in", 2, 2), None)
        self.check(HALL, ((), (), (2,), ()), ("in", 2, 2), None)
        self.check(HALL, ((), (), (2, 2), ()), ("in", 2, 2), "bar")
        self.check(HALL, ((), (), (), ()), ("in", 2, 0), "bar")
        self.check(HALL, ((), (), (), ()), ("in", 2, 1), "bar")
        self.check(UNTOLD, ((), ()), ("in", 0, 1), "bar")

    def test_on_for_each_reason(self):
        self.check(HALL, ((2,), (), (), ()), ("on", 0, 2), None)
        self.check(HALL, ((2,), (), (2,), ()), ("on", 0, 2), None)
        self.check(HALL, ((), (), (), ()), ("on", 0, 2), "bar")
        self.check(HALL, ((2,), (), (2, 2), ()), ("on", 0, 2), "bar")
        self.check(HALL, ((2,), (), (), ()), ("on", 0, 1), "bar")
        self.check(HALL, ((2,), (), (), ()), ("on", 0, 0), "bar")
        self.check(HALL, ((2,), (), (), ()), ("on", 0, 3), "bar")
        # At its aim a letter goes on no more; behind another one it does not go on yet.
        self.check(HALL, ((1,), (), (), ()), ("on", 0, 2), "bar")
        self.check(BLIND, ((1, 2), ()), ("on", 0, 1), "bar")
        self.check(BLIND, ((2, 1), ()), ("on", 0, 1), None)

    def test_out_for_each_reason(self):
        self.check(HALL, ((1,), (), (), ()), ("out", 0), None)
        self.check(HALL, ((), (), (), ()), ("out", 0), "bar")
        self.check(HALL, ((2,), (), (), ()), ("out", 0), "bar")
        self.check(BLIND, ((1, 2), ()), ("out", 0), None)
        self.check(BLIND, ((2, 1), ()), ("out", 0), "bar")

    def test_what_is_no_deed_of_the_net(self):
        wrong = [(), ("in",), ("on",), ("out",), ("in", 0), ("on", 0), ("in", 0, 1, 0), ("on", 0, 1, 1), ("out", 0, 0)]
        wrong += [("put", 0, 1), ("", 0, 1), ("IN", 0, 1), ("in ", 0, 1), ("on in", 0, 1), ("i", 0, 1), ("outs", 0)]
        wrong += [(b"in", 0, 1), (None, 0, 1), (["in"], 0, 1), (("in",), 0, 1), ({"in": 1}, 0, 1), (0, 0, 1)]
        wrong += [["in", 0, 1], ["out", 0], "in 0 1", "out", {"in": (0, 1)}, None, (("in", 0, 1),), [("in", 0, 1)]]
        for odd in (True, False, None, "0", "1", (), (0,), [0], {}, -1, -2, 16, HUGE, -HUGE, 3, 99):
            wrong += [("in", odd, 1), ("in", 0, odd), ("on", odd, 1), ("on", 0, odd), ("out", odd)]
        for stand in (((), (), ()), FULL, ((1,), (2,), ())):
            for value in wrong + list(WRONG_VALUES):
                self.check(WHEEL, stand, value, "form")
        for net in (ALONE, BARE):
            for value in (("in", 0, 0), ("in", 0, 1), ("on", 0, 0), ("out", 0), ("out", -1), None):
                self.check(net, (), value, "form")

    def test_lanes_and_aims_at_the_bounds(self):
        for net in (SIX, SIXTEEN, WHEEL, FORK, PAIR):
            stand, lanes = empty(net), len(net[1])
            for word in ("on", "out"):
                last = (lanes - 1, 0) if word == "on" else (lanes - 1,)
                self.check(net, stand, (word, *last), "bar")
                self.check(net, stand, (word, lanes, *last[1:]), "form")
            self.check(net, stand, ("on", 0, lanes), "form")
            self.check(net, stand, ("in", lanes, 0), "form")
            self.check(net, stand, ("in", 0, 0), "bar")
            self.check(net, stand, ("in", 0, net[0]), "form")
            self.assertIn(deed_error(net, stand, ("in", 0, net[0] - 1)), (None, "bar"))

    def test_none_of_just_the_open_deeds(self):
        for net, stand in nets_and_stands(10):
            going = tuple(deed for deed in plain_deeds(net) if deed_error(net, stand, deed) is None)
            self.assertEqual(repr(going), repr(open_deeds(net, stand)))


class Done(unittest.TestCase):

    def test_all_deeds_of_a_net(self):
        for net, stand in nets_and_stands(11):
            for deed in plain_deeds(net):
                behind = plain_done(net, stand, deed)
                if behind is None:
                    self.assertIs(fields(Refused, done, net, stand, deed)["deed"], deed)
                else:
                    self.assertEqual(repr(result(done, net, stand, deed)), repr(behind))
                    self.check_behind(net, stand, deed, behind)

    def check_behind(self, net, stand, deed, behind):
        self.assertIsNone(stand_error(net, behind))
        self.assertEqual(letters(behind) - letters(stand), {"in": 1, "on": 0, "out": -1}[deed[0]])
        named = deed[1:2] if deed[0] == "in" else deed[1:]
        for k, lane in enumerate(stand):
            if k not in named:
                self.assertEqual(behind[k], lane)
        if deed[0] == "in":
            self.assertEqual(behind[deed[1]], stand[deed[1]] + (deed[2],))
            self.assertIn(deed[2], aims(net, deed[1]))
        else:
            self.assertEqual(behind[deed[1]], stand[deed[1]][1:])
        if deed[0] == "on":
            self.assertEqual(behind[deed[2]], stand[deed[2]] + stand[deed[1]][:1])
            self.assertIn(deed[2], net[2][net[1][deed[2]][0]][stand[deed[1]][0]])

    def test_what_is_refused_is_kept_as_it_was_passed(self):
        for deed in (("in", 0, 2), ("on", 1, 2), ("out", 2)):
            self.assertIs(fields(Refused, done, WHEEL, FULL, deed)["deed"], deed)

    def test_letters_leave_a_lane_in_the_order_in_which_they_came(self):
        row = (3, ((0, 1, 4), (1, 2, 4)), (((), (0,), (0,)), ((), (), (1,)), ((), (), ())))
        stand = empty(row)
        for aim in (2, 1, 2, 1):
            stand = result(done, row, stand, ("in", 0, aim))
        self.assertEqual(stand, ((2, 1, 2, 1), ()))
        for deed, behind in (
            (("on", 0, 1), ((1, 2, 1), (2,))), (("out", 0), ((2, 1), (2,))), (("on", 0, 1), ((1,), (2, 2))),
            (("in", 0, 2), ((1, 2), (2, 2))), (("out", 1), ((1, 2), (2,))), (("out", 0), ((2,), (2,))),
        ):
            stand = result(done, row, stand, deed)
            self.assertEqual(stand, behind)

    def test_a_deed_stays_open_behind_another_one_that_names_none_of_its_lanes(self):
        def lanes(deed):
            return set(deed[1:2] if deed[0] == "in" else deed[1:])
        for net, stand in nets_and_stands(12)[::3]:
            going = open_deeds(net, stand)
            for one, two in itertools.product(going[:25], repeat=2):
                if not lanes(one) & lanes(two):
                    self.assertIsNone(deed_error(net, done(net, stand, one), two))


class Led(unittest.TestCase):

    def test_no_deeds_leave_the_stand_itself(self):
        for net, stand in nets_and_stands(13):
            self.assertEqual(repr(result(led, net, stand, ())), repr(stand))

    def test_long_rows_of_deeds(self):
        chance = random.Random(14)
        for net in ALL_NETS:
            row = tuple(random_walk(chance, net, empty(net), 400 if net in (HALL, SIXTEEN) else 60))
            stand = empty(net)
            for deed in row:
                stand = plain_done(net, stand, deed)
            self.assertEqual(repr(result(led, net, empty(net), row)), repr(stand))
            self.assertIsNone(stand_error(net, stand))
            for cut in (0, 1, len(row) // 2, len(row)):
                middle = led(net, empty(net), row[:cut])
                self.assertEqual(led(net, middle, row[cut:]), stand)
            if net in (HALL, SIXTEEN):
                self.assertEqual(len(row), 400)

    def test_the_first_that_cannot_be_done_is_kept(self):
        chance = random.Random(15)
        for net in ALL_NETS:
            if not net[1]:
                continue
            row = random_walk(chance, net, empty(net), 40)
            for cut in range(0, len(row) + 1, 5):
                stand = led(net, empty(net), tuple(row[:cut]))
                barred = [deed for deed in plain_deeds(net) if plain_done(net, stand, deed) is None]
                deed = chance.choice(barred)
                # Others that can't be done either stand behind it.
                given = tuple(row[:cut]) + (deed,) + tuple(row[cut:]) + tuple(barred[:2])
                self.assertIs(fields(Refused, led, net, empty(net), given)["deed"], deed)

    def test_when_its_turn_comes(self):
        row = (("in", 0, 2), ("on", 0, 1), ("in", 0, 1), ("out", 0), ("out", 1))
        self.assertEqual(result(led, WHEEL, empty(WHEEL), row), empty(WHEEL))
        self.assertEqual(fields(Refused, led, WHEEL, empty(WHEEL), row[1:])["deed"], ("on", 0, 1))
        self.assertEqual(fields(Refused, led, WHEEL, empty(WHEEL), row + row[-1:])["deed"], ("out", 1))
        self.assertEqual(fields(Refused, led, WHEEL, FULL, row)["deed"], ("in", 0, 2))

    def test_four_hundred_deeds_and_more(self):
        row = (("in", 0, 1), ("out", 0)) * 200
        self.assertEqual(result(led, PAIR, ((), ()), row), ((), ()))
        self.assertEqual(result(led, PAIR, ((), ()), row + row[:1]), ((1,), ()))
        self.assertEqual(fields(Refused, led, PAIR, ((), ()), row[:399] + (("in", 0, 1),))["deed"], ("in", 0, 1))

    def test_every_stand_can_be_come_to_from_the_empty_one(self):
        for net, stand in nets_and_stands(16):
            row = tuple(("in", k, aim) for k, lane in enumerate(stand) for aim in lane)
            self.assertEqual(len(row), letters(stand))
            self.assertEqual(result(led, net, empty(net), row), stand)


class OpenDeeds(unittest.TestCase):

    def test_against_all_deeds_of_the_net(self):
        for net, stand in nets_and_stands(17):
            going = tuple(deed for deed in plain_deeds(net) if plain_done(net, stand, deed) is not None)
            self.assertEqual(repr(result(open_deeds, net, stand)), repr(going))
            told = tuple(deed for deed in going if deed[0] != "in")
            self.assertEqual(repr(result(moves, net, stand)), repr(told))
            self.assertEqual(list(going), sorted(going))

    def test_an_in_for_each_lane_with_room_and_each_aim(self):
        for net, stand in nets_and_stands(18):
            told = [deed for deed in open_deeds(net, stand) if deed[0] == "in"]
            wanted = [
                ("in", k, aim) for k, (_, _, room) in enumerate(net[1]) if len(stand[k]) < room for aim in aims(net, k)
            ]
            self.assertEqual(told, wanted)

    def test_moves_hang_on_first_letters_and_on_room_alone(self):
        chance = random.Random(19)
        for net, stand in nets_and_stands(20):
            other = []
            for k, lane in enumerate(stand):
                other.append(lane[:1] + tuple(chance.choice(aims(net, k)) for _ in lane[1:]))
            self.assertEqual(moves(net, stand), moves(net, tuple(other)))

    def test_by_hand(self):
        self.assertEqual(result(open_deeds, ALONE, ()), ())
        self.assertEqual(result(open_deeds, BARE, ()), ())
        self.assertEqual(result(open_deeds, UNTOLD, ((), ())), ())
        self.assertEqual(
            result(open_deeds, HALL, ((2,), (), (2,), (0, 1))),
            (("in", 1, 0), ("in", 2, 2), ("on", 0, 2), ("on", 3, 1), ("out", 2)),
        )
        self.assertEqual(result(moves, HALL, ((2,), (), (2,), (0, 1))), (("on", 0, 2), ("on", 3, 1), ("out", 2)))
        self.assertEqual(result(moves, TWO, ((), (), (0,))), (("out", 2),))


class Stuck(unittest.TestCase):

    def check(self, net, stand, told):
        self.assertEqual(repr((result(stuck, net, stand), result(held_fast, net, stand))), repr(told), (net, stand))

    def test_by_hand(self):
        for net in ALL_NETS:
            self.check(net, empty(net), (False, False))
        for stand in (((2,), (0,), ()), ((2,), (), ()), ((1,), (2,), (0,)), ((1,), (0,), (1,)), ((2,), (0,), (0,))):
            self.check(WHEEL, stand, (False, False))
        self.check(WHEEL, FULL, (True, True))
        self.check(BLIND, ((2,), (0,)), (True, True))
        self.check(BLIND, ((2,), (2,)), (False, False))
        self.check(BLIND, ((), (2,)), (False, False))

    def test_a_letter_at_its_aim_behind_another_one(self):
        self.check(BLIND, ((2, 1), (0,)), (True, False))
        self.check(BLIND, ((1, 2), (0,)), (False, False))
        self.check(BLIND, ((2, 2), (0,)), (True, True))

    def test_a_letter_behind_another_one_that_could_go_on(self):
        # The lane 0 ends at 1; letters for 2 go on into the full lane 1, letters for 3 into the empty lane 2.
        net = (
            4, ((0, 1, 2), (1, 2, 1), (1, 3, 1)),
            (((), (), (0,), (0,)), ((1,), (), (1,), (2,)), ((), (), (), ()), ((), (), (), ())),
        )
        self.check(net, ((2, 3), (0,), ()), (True, False))
        self.check(net, ((3, 2), (0,), ()), (False, False))
        self.check(net, ((2, 2), (0,), ()), (True, True))
        self.check(net, ((2, 2), (2,), ()), (False, False))
        self.check(net, ((2, 3), (0,), (3,)), (False, False))

    def test_against_their_rules(self):
        met = {}
        for net, stand in nets_and_stands(21):
            moving = [deed for deed in plain_deeds(net) if deed[0] != "in" and plain_done(net, stand, deed) is not None]
            loose = 0
            for k, lane in enumerate(stand):
                for aim in lane:
                    end = net[1][k][1]
                    roomy = [other for other in net[2][end][aim] if len(stand[other]) < net[1][other][2]]
                    loose += aim == end or roomy != []
            told = (letters(stand) > 0 and not moving, letters(stand) > 0 and loose == 0)
            self.check(net, stand, told)
            self.assertFalse(told[1] and not told[0])
            self.assertIs(stuck(net, stand), letters(stand) > 0 and moves(net, stand) == ())
            met[told] = met.get(told, 0) + 1
        self.assertEqual(set(met), {(False, False), (True, False), (True, True)})


if __name__ == "__main__":
    unittest.main()
