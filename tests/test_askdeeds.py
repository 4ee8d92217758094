"""K1, K2, K4 so far as it speaks of them, and A3 for their arguments."""

import itertools
import random
import unittest

from roomahead.askdeeds import ask_done, ask_moves, ask_stand_error, ask_stuck
from roomahead.errors import Refused, Unfit
from roomahead.nets import relaned
from roomahead.stands import empty, stand_error
from tests.helper import (
    ALONE, BARE, DESK, FORK, HALL, HOME_AGAIN, MUTE, NETS, PAIR, SIX, SIXTEEN, THERE, TWO, UNTOLD, WHEEL, WRONG_VALUES,
    ask_pairs, fields, in_time, letters, outcome, plain_ask_ahead, plain_ask_deeds, plain_ask_done, plain_ask_moves,
    plain_done, plain_letters, plain_moves, plain_serves_letter, random_ask_stand, random_stand, result, steady,
)

# Lanes side by side with rooms for several letters; asks go by the first one, answers by both.
SIDES = (2, ((0, 1, 2), (0, 1, 4), (1, 0, 3)), (((), (0,)), ((2,), ())))
SIDES_BACK = (2, SIDES[1], (((), (0, 1)), ((2,), ())))
BY_HAND = [(DESK, DESK), (THERE, HOME_AGAIN), (THERE, MUTE), (MUTE, THERE), (SIDES, SIDES_BACK), (ALONE, ALONE)]
BY_HAND += [(BARE, BARE), (UNTOLD, UNTOLD), (WHEEL, WHEEL), (HALL, HALL), (FORK, FORK), (TWO, TWO), (PAIR, PAIR)]
SMALL = BY_HAND + ask_pairs(150, 40, 3, 5)
GREAT = [(SIX, SIX), (SIXTEEN, SIXTEEN)] + [pair for pair in ask_pairs(151, 60) if len(pair[0][1]) > 14]
PAIRS = SMALL + ask_pairs(152, 20) + GREAT


def plain_stand_error(asks, answers, value):
    """What ask_stand_error has to tell by K2."""
    if type(value) is not tuple or len(value) != len(asks[1]):
        return "form"
    known = {repr(letter): letter for letter in plain_letters(asks)}
    for k, row in enumerate(value):
        if type(row) is not tuple or len(row) > asks[1][k][2]:
            return ("lane", k)
        for letter in row:
            # What is shown likewise is the same: True is shown as True, a list with its brackets.
            if repr(letter) not in known or not plain_serves_letter(asks, answers, k, known[repr(letter)]):
                return ("lane", k)
    return None


def some_stands(asks, answers, seed, many=12):
    chance = random.Random(seed)
    return [empty(asks)] + [random_ask_stand(chance, asks, answers) for _ in range(many)]


def spoilt_letters(letter):
    """Values near to a letter that are none."""
    yield from (list(letter), letter[:-1], letter[1:], letter + (0,), letter + (letter[-1],), (letter,), letter[:1], ())
    yield from ((word,) + letter[1:] for word in ("in", "Ask", "asks", "", "answers", None, 0, True, ("ask",), ["ask"]))
    for place in range(1, len(letter)):
        for house in (True, False, -1, 1, 2, 3, 4, 6, 10 ** 399, -(10 ** 399), None, "0", (letter[place],), [letter[place]]):
            yield letter[:place] + (house,) + letter[place + 1:]


class StandError(unittest.TestCase):

    def check(self, asks, answers, value):
        told = plain_stand_error(asks, answers, value)
        self.assertEqual(repr(result(ask_stand_error, asks, answers, value)), repr(told), (asks, answers, value))
        return told

    def test_stands(self):
        for asks, answers in PAIRS:
            for stand in some_stands(asks, answers, 153):
                self.assertIsNone(self.check(asks, answers, stand))

    def test_one_letter_of_each_kind_in_each_lane(self):
        met = {}
        for asks, answers in SMALL:
            for lane, letter in itertools.product(range(len(asks[1])), plain_letters(asks)):
                stand = ((),) * lane + ((letter,),) + ((),) * (len(asks[1]) - lane - 1)
                told = self.check(asks, answers, stand)
                self.assertEqual(told is None, plain_serves_letter(asks, answers, lane, letter))
                met[letter[0], told is None] = met.get((letter[0], told is None), 0) + 1
        self.assertEqual(len(met), 4)

    def test_lanes_that_are_too_full(self):
        for asks, answers in PAIRS:
            for lane, (_, _, room) in enumerate(asks[1]):
                served = [letter for letter in plain_letters(asks) if plain_serves_letter(asks, answers, lane, letter)]
                for many in range(room + 3 if served else 0):
                    stand = ((),) * lane + ((served[0],) * many,) + ((),) * (len(asks[1]) - lane - 1)
                    self.assertEqual(self.check(asks, answers, stand), None if many <= room else ("lane", lane))

    def test_values_of_all_kinds(self):
        for asks, answers in BY_HAND + GREAT[:2]:
            many = len(asks[1])
            for value in WRONG_VALUES + ({"ask": 1}, "ask", (("ask", 1, 0),), b"", 10 ** 30):
                self.check(asks, answers, value)
                self.check(asks, answers, (value,) * many)
                self.check(asks, answers, ((value,),) * many)
                for lane in range(many):
                    self.check(asks, answers, ((),) * lane + (value,) + ((),) * (many - lane - 1))

    def test_other_numbers_of_items_and_lists(self):
        for asks, answers in PAIRS:
            for stand in some_stands(asks, answers, 154, 3):
                wrong = [list(stand), stand + ((),), (stand,), list(map(list, stand))]
                for value in wrong + ([stand[:-1], stand[1:]] if stand else []):
                    # Where there is one lane only (stand,) may be a stand in shape.
                    self.assertNotEqual(self.check(asks, answers, value), None)
                for lane, row in enumerate(stand):
                    value = stand[:lane] + (list(row),) + stand[lane + 1:]
                    self.assertEqual(self.check(asks, answers, value), ("lane", lane))

    def test_spoilt_letters(self):
        count = 0
        for asks, answers in SMALL:
            for stand in some_stands(asks, answers, 155, 4):
                for lane, row in enumerate(stand):
                    for letter in row[:1]:
                        for value in spoilt_letters(letter):
                            told = self.check(asks, answers, stand[:lane] + ((value,) + row[1:],) + stand[lane + 1:])
                            count += told == ("lane", lane)
        self.assertGreater(count, 1000)

    def test_the_first_wrong_lane_is_told(self):
        for wrong in itertools.product((False, True), repeat=4):
            value = tuple((None,) if spoilt else () for spoilt in wrong)
            told = ("lane", wrong.index(True)) if True in wrong else None
            self.assertEqual(self.check(THERE, HOME_AGAIN, value), told)

    def test_unlike_nets_go_ahead_of_all_else(self):
        for asks, answers in unlike_pairs():
            for value in (None, (), empty(asks), empty(answers), [1]):
                self.assertEqual(fields(Unfit, ask_stand_error, asks, answers, value), {})

    def test_answers_alone_are_as_letters_of_a_net(self):
        chance = random.Random(156)
        for net in NETS:
            for _ in range(6):
                stand = random_stand(chance, net)
                told = tuple(tuple(("answer", aim) for aim in row) for row in stand)
                self.assertIsNone(self.check(without_tables(net), net, told))
                self.assertIsNone(stand_error(net, stand))


def without_tables(net):
    return (*net[:2], (((),) * net[0],) * net[0])


def unlike_pairs():
    """Asks and answers with other houses, lanes, rooms, or lanes in another order."""
    grown = (2, ((0, 1, 1), (1, 0, 2)), DESK[2])
    more = (3, DESK[1], (((), (0,), ()), ((1,), (), ()), ((), (), ())))
    found = [(ALONE, BARE), (DESK, THERE), (DESK, grown), (DESK, more), (WHEEL, HALL), (SIX, SIXTEEN)]
    found += [(PAIR, DESK), (TWO, relaned(TWO, (1, 0, 2))), (UNTOLD, WHEEL)]
    return found + [(answers, asks) for asks, answers in found]


class Done(unittest.TestCase):

    def test_all_deeds(self):
        met = {}
        for asks, answers in SMALL:
            for stand in some_stands(asks, answers, 157, 6):
                for deed in plain_ask_deeds(asks):
                    behind = plain_ask_done(asks, answers, stand, deed)
                    kind = (deed[0], deed[2][0] if deed[0] == "in" else None, behind is None)
                    met[kind] = met.get(kind, 0) + 1
                    if behind is None:
                        told = fields(Refused, ask_done, asks, answers, stand, deed)
                        self.assertEqual(repr(told), repr({"deed": deed}))
                    else:
                        self.assertEqual(repr(result(ask_done, asks, answers, stand, deed)), repr(behind))
                        self.assertIsNone(ask_stand_error(asks, answers, behind))
        self.assertEqual(len(met), 8)
        self.assertGreater(min(met.values()), 20)

    def test_some_deeds_of_great_nets(self):
        chance = random.Random(158)
        for asks, answers in GREAT:
            for stand in some_stands(asks, answers, 159, 2):
                for deed in chance.sample(plain_ask_deeds(asks), 40) + plain_ask_moves(asks, answers, stand):
                    behind = plain_ask_done(asks, answers, stand, deed)
                    told = ("raised", Refused, {"deed": deed}) if behind is None else ("returned", behind)
                    self.assertEqual(outcome(ask_done, (asks, answers, stand, deed), {}), told)

    def test_an_ask_turns_at_its_aim_and_its_answer_comes_home(self):
        stand = empty(THERE)
        for deed, told in (
            (("in", 0, ("ask", 1, 0)), ((("ask", 1, 0),), (), (), ())),
            (("on", 0, 3), ((), (), (), (("answer", 0),))),
            (("in", 0, ("ask", 1, 1)), ((("ask", 1, 1),), (), (), (("answer", 0),))),
            (("out", 3), ((("ask", 1, 1),), (), (), ())),
            (("out", 0), ((), (), (), ())),
        ):
            stand = result(ask_done, THERE, HOME_AGAIN, stand, deed)
            self.assertEqual(stand, told)

    def test_an_ask_goes_on_as_an_ask_ahead_of_its_aim(self):
        # From 0 to 2 over 1, where the answer is to go: it does not turn there.
        stand = result(ask_done, HALL, HALL, ((("ask", 2, 1),), (), (), ()), ("on", 0, 2))
        self.assertEqual(stand, ((), (), (("ask", 2, 1),), ()))
        stand = result(ask_done, HALL, HALL, stand, ("on", 2, 3))
        self.assertEqual(stand, ((), (), (), (("answer", 1),)))
        self.assertEqual(result(ask_done, HALL, HALL, stand, ("out", 3)), empty(HALL))
        told = fields(Refused, ask_done, HALL, HALL, ((("ask", 2, 1),), (), (), ()), ("out", 0))
        self.assertEqual(told, {"deed": ("out", 0)})

    def test_letters_keep_their_order(self):
        stand = empty(SIDES)
        for letter in (("ask", 0, 0), ("answer", 0), ("ask", 0, 1)):
            stand = result(ask_done, SIDES, SIDES_BACK, stand, ("in", 2, letter))
        self.assertEqual(stand, ((), (), (("ask", 0, 0), ("answer", 0), ("ask", 0, 1))))
        self.assertEqual(ask_moves(SIDES, SIDES_BACK, stand), (("out", 2),))
        for _ in range(2):
            stand = result(ask_done, SIDES, SIDES_BACK, stand, ("out", 2))
        # Into either lane for answers; an ask goes by the lane 0 alone.
        self.assertEqual(ask_moves(SIDES, SIDES_BACK, stand), (("on", 2, 0), ("on", 2, 1)))
        self.assertEqual(result(ask_done, SIDES, SIDES_BACK, stand, ("on", 2, 1)), ((), (("answer", 1),), ()))
        deed = ("in", 1, ("ask", 1, 0))
        self.assertEqual(fields(Refused, ask_done, SIDES, SIDES_BACK, empty(SIDES), deed), {"deed": deed})

    def test_unlike_nets_go_ahead_of_all_else(self):
        for asks, answers in unlike_pairs():
            for deed in (("in", 0, ("ask", 1, 0)), ("on", 0, 1), ("out", 0)):
                self.assertEqual(fields(Unfit, ask_done, asks, answers, empty(asks), deed), {})

    def test_answers_alone_go_as_letters_of_a_net(self):
        chance = random.Random(160)
        for net in NETS:
            mute = without_tables(net)
            for _ in range(4):
                stand = random_stand(chance, net)
                told = tuple(tuple(("answer", aim) for aim in row) for row in stand)
                self.assertEqual(ask_moves(mute, net, told), tuple(deed for deed, _ in plain_moves(net, stand)))
                for deed, behind in plain_moves(net, stand):
                    self.assertEqual(
                        ask_done(mute, net, told, deed), tuple(tuple(("answer", aim) for aim in row) for row in behind),
                    )
                    self.assertEqual(plain_done(net, stand, deed), behind)


class Moves(unittest.TestCase):

    def test_against_all_deeds(self):
        met = set()
        for asks, answers in PAIRS:
            for stand in some_stands(asks, answers, 161):
                told = plain_ask_moves(asks, answers, stand)
                moves = result(ask_moves, asks, answers, stand)
                self.assertEqual(repr(moves), repr(tuple(told)))
                self.assertEqual(list(moves), sorted(moves))
                self.assertIs(result(ask_stuck, asks, answers, stand), letters(stand) > 0 and not told)
                met.add((letters(stand) > 0, min(len(told), 3)))
        self.assertEqual(met, {(False, 0), (True, 0), (True, 1), (True, 2), (True, 3)})

    def test_what_is_ahead_of_each_letter(self):
        kinds = {}
        for asks, answers in PAIRS:
            for lane, letter in itertools.product(range(len(asks[1])), plain_letters(asks)):
                if plain_serves_letter(asks, answers, lane, letter):
                    stand = ((),) * lane + ((letter,),) + ((),) * (len(asks[1]) - lane - 1)
                    ahead = plain_ask_ahead(asks, answers, lane, letter)
                    told = (("out", lane),) if ahead is None else tuple(("on", lane, other) for other in ahead)
                    self.assertEqual(repr(ask_moves(asks, answers, stand)), repr(told))
                    self.assertIs(ask_stuck(asks, answers, stand), told == ())
                    kind = (letter[0], letter[1] == asks[1][lane][1], len(told) > 0)
                    kinds[kind] = kinds.get(kind, 0) + 1
        # Answers at their aims are always home.
        self.assertEqual(len(kinds), 7)

    def test_by_hand(self):
        self.assertEqual(repr(result(ask_moves, ALONE, ALONE, ())), "()")
        self.assertIs(result(ask_stuck, ALONE, ALONE, ()), False)
        self.assertIs(result(ask_stuck, BARE, BARE, ()), False)
        self.assertIs(result(ask_stuck, WHEEL, WHEEL, ((), (), ())), False)
        # An ask at its aim finds no lane for its answer; one that is answered to the house itself is home.
        self.assertIs(result(ask_stuck, THERE, MUTE, ((("ask", 1, 0),), (), (), ())), True)
        self.assertIs(result(ask_stuck, THERE, MUTE, ((("ask", 1, 1),), (), (), ())), False)
        # The first letter counts alone.
        full = ((("ask", 1, 0),) * 2, (("answer", 1),) * 4, (("ask", 0, 1), ("answer", 0)))
        self.assertEqual(result(ask_moves, SIDES, SIDES_BACK, full), (("on", 0, 2), ("out", 1)))
        self.assertIs(result(ask_stuck, DESK, DESK, ((("ask", 1, 0),), (("ask", 0, 1),))), True)

    def test_unlike_nets_go_ahead_of_all_else(self):
        for asks, answers in unlike_pairs():
            for function in (ask_moves, ask_stuck):
                self.assertEqual(fields(Unfit, function, asks, answers, empty(asks)), {})


class Calls(unittest.TestCase):

    def test_great_nets_take_little_time(self):
        self.assertIn((6, 16), {(asks[0], len(asks[1])) for asks, _ in GREAT})
        for asks, answers in GREAT:
            for stand in some_stands(asks, answers, 162, 2):
                self.assertEqual(in_time(ask_stand_error, asks, answers, stand), ("returned", None))
                self.assertEqual(in_time(ask_moves, asks, answers, stand)[0], "returned")
                self.assertEqual(in_time(ask_stuck, asks, answers, stand)[0], "returned")

    def test_equal_calls_get_equal_results_also_with_others_between(self):
        calls = []
        for asks, answers in PAIRS[::3] + unlike_pairs():
            chance = random.Random(163)
            stand = random_ask_stand(chance, asks, asks)
            calls += [(ask_stand_error, (asks, answers, stand)), (ask_stand_error, (asks, answers, [None]))]
            if asks == answers:
                calls += [(ask_moves, (asks, answers, stand)), (ask_stuck, (asks, answers, stand))]
                calls += [(ask_done, (asks, answers, stand, deed)) for deed in plain_ask_deeds(asks)[:30]]
        self.assertTrue(steady(calls))


if __name__ == "__main__":
    unittest.main()
