"""L1 to L4."""

import itertools
import random
import unittest

from roomahead.beats import homecomings, state_at
from roomahead.errors import TooMany
from roomahead.homes import longest, settles
from roomahead.lots import free, greatest_lot
from roomahead.makers import grid, nearest, one_way, up_down
from roomahead.moving import led
from roomahead.papers import paper
from roomahead.stands import empty, stand_error
from tests.helper import (
    ALONE, BARE, BLIND, DEAD, FORK, HALL, LOT_NETS, NETS, PAIR, SIX, SIXTEEN, TANGLE, TWO, UNTOLD, WANDER, WHEEL,
    downhill_net, fields, great_nets, in_time, led_nets, outcome, plain_has_ring, random_nets, result, small_nets, steady,
)

RULES = ("low", "eldest")
CHANCE = random.Random(180)
STREET = (
    3, ((0, 1, 1), (1, 0, 1), (1, 2, 1), (2, 1, 1)), (((), (0,), (0,)), ((1,), (), (2,)), ((3,), (3,), ())),
)
SMALL = LOT_NETS + tuple(small_nets(181, 30)) + tuple(led_nets(182, 30, 4, 6))
GREAT = (SIX, SIXTEEN, one_way(6, 2), nearest(*grid(3, 2, 1)), up_down(*grid(3, 2, 1), 0)) + tuple(great_nets(183, 6))
GREAT += tuple(led_nets(184, 6, 6, 16)) + tuple(downhill_net(CHANCE, 6, 16) for _ in range(4))
ALL_NETS = NETS + SMALL + GREAT + tuple(random_nets(185, 15))
# Letters that go round for long till a state comes again: behind beat 930 by "low", behind beat 997 by "eldest".
LONG_LOW = (
    (5, ((0, 1, 4), (1, 2, 4), (2, 3, 4), (3, 4, 2), (4, 0, 2), (2, 0, 4), (0, 1, 3), (0, 4, 3), (3, 2, 1), (1, 4, 4),
         (0, 2, 3)),
     (((), (10,), (0,), (0, 6), (0, 10)), ((1, 9), (), (1, 9), (9,), (1, 9)), ((2,), (2, 5), (), (5,), (2, 5)),
      ((3, 8), (3, 8), (3,), (), (8,)), ((4,), (4,), (4,), (4,), ()))),
    ((0, 0, 1), (0, 0, 4), (0, 4, 0), (0, 2, 1), (0, 4, 3), (0, 4, 1), (0, 0, 4), (1, 0, 4), (1, 1, 3), (1, 2, 3),
     (1, 1, 4), (1, 3, 4), (2, 0, 1), (3, 1, 4), (3, 4, 0), (3, 1, 4)),
)
LONG_ELDEST = (
    (4, ((0, 1, 1), (1, 2, 3), (2, 3, 3), (3, 0, 1), (2, 1, 2), (2, 1, 4), (2, 1, 4), (1, 2, 2), (3, 1, 2)),
     (((), (0,), (0,), (0,)), ((1,), (), (1,), (1, 7)), ((2, 4, 6), (2, 4, 5, 6), (), (4, 5)),
      ((8,), (3, 8), (3, 8), ()))),
    ((0, 0, 3), (0, 2, 0), (0, 1, 3), (0, 2, 3), (1, 0, 1), (1, 0, 3), (1, 2, 0), (1, 0, 3), (2, 1, 0), (2, 2, 0),
     (2, 2, 1), (2, 3, 1), (2, 1, 2), (2, 0, 2), (2, 0, 1), (2, 2, 0), (2, 2, 0), (3, 0, 3), (3, 1, 0), (3, 1, 0)),
)
# The last letter comes home in beat 998 by "low".
LATE_LOW = (
    (6, ((0, 1, 1), (1, 2, 4), (2, 3, 1), (3, 4, 1), (4, 5, 2), (5, 0, 3), (2, 4, 4), (4, 1, 2), (0, 5, 1),
         (2, 4, 1), (5, 4, 4), (4, 2, 2)),
     (((), (0, 8), (0,), (0, 8), (0, 8), (0,)), ((1,), (), (1,), (1,), (1,), (1,)),
      ((6, 9), (9,), (), (2, 6, 9), (2, 9), (2, 6, 9)), ((3,), (3,), (3,), (), (3,), (3,)),
      ((4, 7), (4, 11), (4, 7, 11), (7, 11), (), (4,)), ((5, 10), (5, 10), (5,), (10,), (5,), ()))),
    ((0, 1, 0), (0, 1, 0), (0, 5, 4), (0, 0, 2), (0, 2, 0), (0, 2, 0), (0, 3, 5), (0, 5, 3), (0, 2, 3), (0, 3, 2),
     (0, 5, 2), (0, 0, 4), (0, 1, 0), (0, 0, 5), (0, 4, 0), (0, 2, 3), (0, 0, 1), (0, 5, 3), (0, 4, 1), (2, 5, 1),
     (2, 1, 3), (2, 0, 3), (2, 1, 5), (2, 1, 5), (2, 5, 4), (2, 0, 4), (3, 1, 5), (3, 5, 3), (3, 4, 2), (3, 2, 0),
     (3, 4, 5), (3, 1, 4), (3, 2, 1)),
)
# The state behind beat 31 comes again behind beat 962 by "eldest", and so each 931 beats.
ROUND_ELDEST = (
    (5, ((0, 1, 1), (1, 2, 1), (2, 3, 1), (3, 4, 1), (4, 0, 3), (0, 3, 4), (0, 1, 4), (4, 2, 2), (1, 3, 3),
         (3, 1, 4), (4, 1, 2), (2, 0, 2)),
     (((), (0,), (0, 5, 6), (5,), (0,)), ((1,), (), (8,), (1, 8), (1,)), ((11,), (11,), (), (2,), (2, 11)),
      ((9,), (3,), (3,), (), (3, 9)), ((4, 10), (7, 10), (4, 10), (4, 7, 10), ()))),
    ((0, 3, 2), (0, 4, 2), (0, 1, 3), (0, 3, 0), (0, 1, 4), (0, 1, 4), (1, 4, 2), (1, 4, 1), (1, 0, 3), (1, 3, 0),
     (1, 0, 3), (1, 0, 2), (1, 1, 2), (1, 2, 3), (1, 0, 2), (1, 1, 4), (1, 4, 0), (1, 0, 4), (2, 4, 2), (2, 4, 2),
     (2, 4, 2), (2, 0, 3), (2, 2, 4), (2, 4, 0), (2, 0, 3), (3, 1, 0), (3, 2, 4), (3, 4, 0), (3, 3, 4), (3, 3, 4),
     (3, 4, 1), (3, 3, 2), (3, 4, 2)),
)


def later(traffic, beats):
    return tuple((beat + beats, house, aim) for beat, house, aim in traffic)


def some_traffic(chance, net, many=None, last=None):
    """Any traffic of the net, () of a net of one house."""
    many = chance.choice((1, 3, 8, 20, 40)) if many is None else many
    last = chance.choice((0, 2, 10, 40, 100)) if last is None else last
    if net[0] == 1:
        return ()
    return tuple((beat, *chance.sample(range(net[0]), 2)) for beat in sorted(chance.choices(range(last + 1), k=many)))


def some_calls(seed, many=2):
    chance = random.Random(seed)
    return [
        (net, some_traffic(chance, net), rule)
        for net in ALL_NETS for _ in range(many) for rule in RULES
    ]


class Engine:
    """The rules of L2, letter by letter: where tells for each letter its lane, or "due", "home", or None."""

    def __init__(self, net, traffic, rule):
        self.net, self.traffic, self.rule = net, traffic, rule
        self.where = {k: None for k in range(len(traffic))}
        self.came, self.clock, self.beat = {}, 0, 0
        self.homes = [None] * len(traffic)

    def lying(self, lane):
        """The letters of a lane, the first one in front."""
        there = [k for k, place in self.where.items() if place == lane]
        return sorted(there, key=lambda k: self.came[k])

    def lay(self, letter, house):
        """The lane into which the letter goes from the house, None if there is no room."""
        for lane in self.net[2][house][self.traffic[letter][2]]:
            if len(self.lying(lane)) < self.net[1][lane][2]:
                self.where[letter], self.came[letter] = lane, self.clock
                self.clock += 1
                return lane
        return None

    def go(self):
        """One beat; returns the deeds that were done."""
        deeds = []
        firsts = {lane: self.lying(lane)[0] for lane in range(len(self.net[1])) if self.lying(lane)}
        for lane in sorted(firsts, key=lambda lane: lane if self.rule == "low" else firsts[lane]):
            letter, end = firsts[lane], self.net[1][lane][1]
            if end == self.traffic[letter][2]:
                self.where[letter], self.homes[letter] = "home", self.beat
                deeds.append(("out", lane))
            else:
                other = self.lay(letter, end)
                deeds += [] if other is None else [("on", lane, other)]
        for letter, (beat, house, aim) in enumerate(self.traffic):
            if beat == self.beat:
                self.where[letter] = "due"
            if self.where[letter] == "due":
                lane = self.lay(letter, house)
                deeds += [] if lane is None else [("in", lane, aim)]
        self.beat += 1
        return deeds

    def state(self):
        return tuple(tuple(self.lying(lane)) for lane in range(len(self.net[1])))

    def waiting(self):
        return tuple(k for k, place in self.where.items() if place == "due")


def plain_homecomings(net, traffic, rule):
    """What homecomings has to return; "many" where it has to raise: all beats to 1000 are gone through."""
    engine, met, again = Engine(net, traffic, rule), set(), False
    for beat in range(1001):
        engine.go()
        if traffic and beat >= traffic[-1][0]:
            state = (engine.state(), engine.waiting())
            again = again or state in met
            met.add(state)
            # What comes again comes again and again; but some beats more are looked at.
            if again and beat > traffic[-1][0] + 300:
                break
    return tuple(engine.homes) if again or None not in engine.homes else "many"


class Homecomings(unittest.TestCase):

    def test_against_a_plain_engine(self):
        met = {}
        for net, traffic, rule in some_calls(186):
            told = plain_homecomings(net, traffic, rule)
            if told == "many":
                self.assertEqual(fields(TooMany, homecomings, net, traffic, rule), {"limit": 1000})
            else:
                self.assertEqual(repr(result(homecomings, net, traffic, rule)), repr(told), (net, traffic, rule))
            kind = "many" if told == "many" else (None in told, any(beat is not None for beat in told))
            met[kind] = met.get(kind, 0) + 1
        # Some never come home, none does, all do.
        for kind in ((True, True), (True, False), (False, True)):
            self.assertGreater(met[kind], 20)

    def test_both_rules_are_unlike(self):
        count = 0
        for net, traffic, rule in some_calls(187):
            told = [outcome(homecomings, (net, traffic, rule), {}) for rule in RULES]
            count += told[0] != told[1]
        self.assertGreater(count, 40)

    def test_no_letters(self):
        for net in ALL_NETS:
            for rule in RULES:
                self.assertEqual(repr(result(homecomings, net, (), rule)), "()")
                self.assertEqual(repr(result(state_at, net, (), rule, 5)), repr(empty(net)))

    def test_letters_whose_table_is_empty(self):
        for rule in RULES:
            for beat in (0, 7, 100):
                self.assertEqual(repr(result(homecomings, BARE, ((beat, 0, 1), (beat, 1, 0)), rule)), "(None, None)")
            # The second one does not wait for the first one.
            self.assertEqual(result(homecomings, DEAD, ((0, 1, 2), (0, 0, 1)), rule), (None, None))
            self.assertEqual(result(homecomings, BLIND, ((0, 2, 1), (3, 0, 1), (100, 2, 0)), rule), (None, 4, None))

    def test_letters_that_are_due_late(self):
        for rule in RULES:
            self.assertEqual(result(homecomings, PAIR, ((100, 0, 1), (100, 0, 1), (100, 0, 1)), rule), (101, 102, 103))
            self.assertEqual(result(homecomings, PAIR, ((0, 0, 1), (100, 0, 1)), rule), (1, 101))
            many = ((100, 0, 1),) * 40
            self.assertEqual(result(homecomings, PAIR, many, rule), tuple(range(101, 141)))

    def test_a_letter_that_goes_round_waits_for_nobody(self):
        # In wander a letter for 2 goes to and fro between 0 and 1 by the lanes 0 and 1, the first one of its table.
        for rule in RULES:
            self.assertEqual(result(homecomings, WANDER, ((0, 0, 2),), rule), (None,))
            self.assertEqual(result(homecomings, WANDER, ((0, 0, 2), (90, 0, 1)), rule), (None, None))
            self.assertEqual(result(homecomings, FORK, ((0, 0, 2), (0, 1, 0), (99, 2, 1)), rule), (2, 1, 101))

    def test_a_state_that_comes_again_ahead_of_the_last_letter_tells_nothing_yet(self):
        # The letter 0 goes round the lanes 0 and 1 till the letter 1 fills the lane 1; then it goes on by the lane 2.
        net = (
            4, ((0, 1, 1), (1, 0, 1), (1, 2, 1), (0, 3, 1)),
            (((), (), (0,), (3,)), ((1,), (), (1, 2), (1,)), ((), (), (), ()), ((), (), (), ())),
        )
        for rule in RULES:
            self.assertEqual(result(homecomings, net, ((0, 0, 2),), rule), (None,))
            for beat in (50, 51):
                told = plain_homecomings(net, ((0, 0, 2), (beat, 1, 0), (beat, 1, 0)), rule)
                self.assertEqual(result(homecomings, net, ((0, 0, 2), (beat, 1, 0), (beat, 1, 0)), rule), told)
                self.assertNotIn(None, told)

    def test_a_state_that_comes_again_just_in_time_and_too_late(self):
        for (net, traffic), rule, beat in ((LONG_LOW, "low", 930), (LONG_ELDEST, "eldest", 997)):
            engine, met = Engine(net, traffic, rule), []
            while len(set(met)) == len(met):
                engine.go()
                met += [(engine.state(), engine.waiting())] * (engine.beat > traffic[-1][0])
            self.assertEqual(engine.beat - 1, beat)
            for more in (0, 1, 1000 - beat):
                told = tuple(None if home is None else home + more for home in engine.homes)
                self.assertIn(None, told)
                self.assertEqual(result(homecomings, net, later(traffic, more), rule), told)
            for more in (1001 - beat, 1002 - beat, 95):
                self.assertEqual(fields(TooMany, homecomings, net, later(traffic, more), rule), {"limit": 1000})

    def test_a_state_that_comes_again_from_the_last_beat_on(self):
        # In a house more, without lanes, a letter becomes due and waits for ever; with it begin the beats that count.
        (houses, lanes, tables), traffic = ROUND_ELDEST
        net = (houses + 1, lanes, tuple(table + ((),) for table in tables) + (((),) * 6,))
        for beat, known in ((32, True), (68, True), (69, True), (70, False), (100, False)):
            told = outcome(homecomings, (net, traffic + ((beat, 5, 0),), "eldest"), {})
            self.assertEqual(told[0] == "returned", known)
            if known:
                self.assertEqual(told[1], homecomings(*ROUND_ELDEST, "eldest") + (None,))
            else:
                self.assertEqual(told[1:], (TooMany, {"limit": 1000}))

    def test_the_last_letter_comes_home_just_in_time_and_too_late(self):
        net, traffic = LATE_LOW
        told = result(homecomings, net, traffic, "low")
        self.assertEqual((max(told), told), (998, plain_homecomings(net, traffic, "low")))
        for more in (1, 2):
            self.assertEqual(result(homecomings, net, later(traffic, more), "low"), tuple(beat + more for beat in told))
        for more in (3, 4, 90):
            self.assertEqual(fields(TooMany, homecomings, net, later(traffic, more), "low"), {"limit": 1000})

    def test_by_hand(self):
        for rule in RULES:
            self.assertEqual(result(homecomings, ALONE, (), rule), ())
            self.assertEqual(result(homecomings, WHEEL, ((0, 0, 2), (0, 1, 0), (0, 2, 1)), rule), (None, None, None))
            # Two lanes side by side: the first one with room, by number.
            self.assertEqual(result(homecomings, TWO, ((0, 0, 1),) * 5, rule), (1, 2, 1, 3, 2))
        crowd = ((0, 0, 2), (0, 0, 2), (0, 1, 2), (0, 1, 2))
        self.assertEqual(result(homecomings, STREET, crowd, "low"), (4, 6, 1, 2))
        self.assertEqual(result(homecomings, STREET, crowd, "eldest"), (4, 5, 1, 2))


class StateAt(unittest.TestCase):

    def test_against_a_plain_engine(self):
        for net, traffic, rule in some_calls(188, 1):
            engine = Engine(net, traffic, rule)
            for beat in range(101):
                engine.go()
                if beat in (0, 1, 2, 3, 7, 20, 41, 99, 100):
                    told = state_at(net, traffic, rule, beat)
                    self.assertEqual(repr(told), repr(engine.state()), (net, traffic, rule, beat))
            self.assertEqual(repr(result(state_at, net, traffic, rule, 100)), repr(engine.state()))

    def test_a_beat_is_a_row_of_deeds(self):
        kinds = set()
        for net, traffic, rule in some_calls(189, 1):
            engine, stand = Engine(net, traffic, rule), empty(net)
            for beat in range(30):
                deeds = tuple(engine.go())
                kinds |= {deed[0] for deed in deeds}
                behind = tuple(tuple(traffic[k][2] for k in row) for row in state_at(net, traffic, rule, beat))
                self.assertIsNone(stand_error(net, behind))
                self.assertEqual(led(net, stand, deeds), behind)
                stand = behind
        self.assertEqual(kinds, {"in", "on", "out"})

    def test_letters_of_one_lane_keep_their_order(self):
        for net, traffic, rule in some_calls(190, 1):
            before = empty(net)
            for beat in range(25):
                behind = state_at(net, traffic, rule, beat)
                for lane, row in enumerate(behind):
                    left = [k for k in before[lane] if k in row]
                    self.assertEqual(list(row[:len(left)]), left)
                    self.assertIn(list(before[lane]), (left, [*before[lane][:1], *left]))
                before = behind

    def test_by_hand(self):
        some = ((0, 0, 1), (0, 0, 1), (0, 1, 0), (2, 0, 1))
        for rule in RULES:
            told = [result(state_at, PAIR, some, rule, beat) for beat in (0, 1, 2, 3, 4, 100)]
            self.assertEqual(told, [((0,), (2,)), ((1,), ()), ((3,), ()), ((), ()), ((), ()), ((), ())])
            self.assertEqual(repr(result(state_at, ALONE, (), rule, 0)), "()")
            self.assertEqual(repr(result(state_at, UNTOLD, ((0, 0, 2),), rule, 100)), "((), ())")
            # A lane that was left earlier in the beat has room again; a letter goes on once a beat.
            told = [result(state_at, WHEEL, ((0, 0, 2), (0, 2, 1)), rule, beat) for beat in range(3)]
            self.assertEqual(told, [((0,), (), (1,)), ((1,), (0,), ()), ((), (), ())])
        told = {rule: result(state_at, WHEEL, ((0, 2, 1), (0, 0, 2)), rule, 1) for rule in RULES}
        self.assertEqual(told, {"low": ((0,), (1,), ()), "eldest": ((), (1,), (0,))})
        crowd = ((0, 0, 2), (0, 0, 2), (0, 1, 2), (0, 1, 2))
        self.assertEqual(state_at(STREET, crowd, "low", 3), ((1,), (), (0,), ()))
        self.assertEqual(result(state_at, STREET, crowd, "low", 4), ((1,), (), (), ()))
        self.assertEqual(result(state_at, STREET, crowd, "eldest", 4), ((), (), (1,), ()))


class WhatHolds(unittest.TestCase):

    def test_nets_that_settle(self):
        chance = random.Random(191)
        count = 0
        for net in ALL_NETS:
            if not settles(net) or net[0] == 1:
                continue
            ways = [longest(net, aim) for aim in range(net[0])]
            for rule in RULES:
                traffic = some_traffic(chance, net)
                told = result(homecomings, net, traffic, rule)
                served = [net[2][house][aim] != () for _, house, aim in traffic]
                self.assertEqual([beat is not None for beat in told], served)
                most = sum(1 + ways[aim][house] for (_, house, aim), good in zip(traffic, served) if good)
                self.assertLessEqual(max([beat for beat in told if beat is not None], default=0), traffic[-1][0] + most)
                count += True in served
        self.assertGreater(count, 40)

    def test_the_traffic_of_a_lot_never_comes_home(self):
        count = 0
        for net in ALL_NETS:
            tables = tuple(tuple(entry[:1] for entry in table) for table in net[2])
            single = (*net[:2], tables)
            for lot in {paper(single)[1], greatest_lot(single)} if not free(single) else ():
                traffic = tuple((0, net[1][k][0], aim) for k, aim in lot for _ in range(net[1][k][2]))
                if len(traffic) <= 40:
                    for rule in RULES:
                        told = result(homecomings, single, traffic, rule)
                        self.assertEqual(told, (None,) * len(traffic))
                    count += 1
        self.assertGreater(count, 40)

    def test_the_eldest_letter_always_goes_on_if_it_can(self):
        count = 0
        for net, traffic, rule in some_calls(192, 1):
            before = empty(net)
            for beat in range(40):
                behind = state_at(net, traffic, "eldest", beat)
                letter = min([row[0] for row in before if row], default=None)
                if letter is not None:
                    lane = [row[:1] for row in before].index((letter,))
                    end, aim = net[1][lane][1], traffic[letter][2]
                    could = end == aim or any(len(before[k]) < net[1][k][2] for k in net[2][end][aim])
                    if could:
                        self.assertNotIn(letter, behind[lane])
                        count += 1
                before = behind
        self.assertGreater(count, 500)

    def test_a_ring_holds_a_letter_alone_where_its_lanes_come_first(self):
        for net in SMALL:
            for house, aim in itertools.permutations(range(net[0]), 2):
                told = result(homecomings, net, ((0, house, aim),), "low")
                self.assertEqual(told, homecomings(net, ((0, house, aim),), "eldest"))
                if told == (None,) and net[2][house][aim] != () and free(net):
                    self.assertTrue(plain_has_ring(net, aim))


class Calls(unittest.TestCase):

    def test_great_nets_take_little_time(self):
        chance = random.Random(193)
        for net in GREAT:
            for many, last in ((40, 0), (40, 100)):
                traffic = some_traffic(chance, net, many, last)
                for rule in RULES:
                    in_time(homecomings, net, traffic, rule)
                    self.assertEqual(in_time(state_at, net, traffic, rule, 100)[0], "returned")
        for (net, traffic), rule in ((LONG_LOW, "low"), (LONG_ELDEST, "eldest")):
            self.assertEqual(in_time(homecomings, net, later(traffic, 90), rule)[0], "raised")

    def test_equal_calls_get_equal_results_also_with_others_between(self):
        calls = []
        for net, traffic, rule in some_calls(194, 1)[::3]:
            calls += [(homecomings, (net, traffic, rule)), (state_at, (net, traffic, rule, 9))]
        self.assertTrue(steady(calls + [(homecomings, (LONG_LOW[0], later(LONG_LOW[1], 99), "low"))]))

    def test_tangled_lanes(self):
        traffic = ((0, 0, 2),) * 3 + ((1, 1, 2),) * 2
        for rule in RULES:
            self.assertEqual(result(homecomings, TANGLE, traffic, rule), (None,) * 5)
            self.assertEqual(result(homecomings, HALL, ((0, 0, 2),), rule), (2,))


if __name__ == "__main__":
    unittest.main()
