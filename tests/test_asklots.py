"""K3, K4, and A2 (f) so far as it speaks of asks and answers."""

import itertools
import random
import unittest

from roomahead.askdeeds import ask_done, ask_moves, ask_stand_error, ask_stuck
from roomahead.asklots import apart, ask_filling, ask_free, ask_lot
from roomahead.errors import Unfit
from roomahead.lots import free, greatest_lot
from roomahead.makers import circle, grid, one_way, up_down
from roomahead.nets import relaned
from roomahead.stands import empty
from tests.helper import (
    ALONE, BARE, DESK, FORK, HALL, HOME_AGAIN, LOST, LOT_NETS, MUTE, NETS, PAIR, SIX, SIXTEEN, THERE, TWO, UNTOLD, WHEEL,
    ask_pairs, fields, in_time, plain_aims, plain_ask_ahead, plain_ask_done, plain_ask_moves, plain_letters,
    plain_serves_letter, random_ask_stand, result, steady,
)

BY_HAND = [(DESK, DESK), (THERE, HOME_AGAIN), (HOME_AGAIN, THERE), (THERE, MUTE), (MUTE, THERE), (MUTE, MUTE)]
BY_HAND += [(THERE, THERE)] + [(net, net) for net in LOT_NETS]
SMALL = BY_HAND + ask_pairs(170, 80, 3, 4, 2) + ask_pairs(171, 40, 3, 6) + ask_pairs(172, 40, 2, 4)
GREAT = [(SIX, SIX), (SIXTEEN, SIXTEEN), (one_way(6, 2), one_way(6, 2))]
GREAT += [pair for pair in ask_pairs(173, 150) if pair[0][0] == 6 and len(pair[0][1]) > 13]
PAIRS = SMALL + [(net, net) for net in NETS] + ask_pairs(174, 60) + GREAT


def on_lanes_apart(asks, answers):
    """Asks and answers of nets with the same houses, put on lanes side by side."""
    lanes, many = asks[1] + answers[1], len(asks[1])
    back = tuple(tuple(tuple(many + k for k in entry) for entry in table) for table in answers[2])
    return ((asks[0], lanes, asks[2]), (asks[0], lanes, back))


PAIRS += [on_lanes_apart(one, other) for one, other in itertools.product((WHEEL, HALL, FORK, LOST, UNTOLD), repeat=2)]
PAIRS += [on_lanes_apart(up_down(*circle(4, 1), 0), up_down(*circle(4, 2), 2)), on_lanes_apart(PAIR, TWO)]


def plain_open(asks, answers, lane):
    """The letters that a lane serves and that are not home at its end, ascending."""
    served = [letter for letter in plain_letters(asks) if plain_serves_letter(asks, answers, lane, letter)]
    return [letter for letter in served if plain_ask_ahead(asks, answers, lane, letter) is not None]


def plain_lot(asks, answers):
    """What ask_lot has to return: a plain striking out, one lane at a time."""
    left = set(range(len(asks[1])))
    while True:
        held = {}
        for lane in left:
            held[lane] = [
                letter for letter in plain_open(asks, answers, lane)
                if not set(plain_ask_ahead(asks, answers, lane, letter)) - left
            ]
        gone = [lane for lane in left if not held[lane]]
        if not gone:
            return tuple((lane, held[lane][0]) for lane in sorted(left))
        left.remove(gone[0])


def plain_lots(asks, answers, most=4000):
    """All lots of both, [] if there would be too much to go through."""
    fits = [[None] + plain_open(asks, answers, lane) for lane in range(len(asks[1]))]
    many = 1
    for fit in fits:
        many *= len(fit)
    lots = []
    for told in itertools.product(*fits) if many <= most else []:
        lanes = {lane for lane, letter in enumerate(told) if letter is not None}
        if lanes and all(set(plain_ask_ahead(asks, answers, lane, told[lane])) <= lanes for lane in lanes):
            lots.append(tuple((lane, told[lane]) for lane in sorted(lanes)))
    return lots


def all_stands(asks, answers, most=1500):
    """All stands of both, None if they are too many."""
    fits, many = [], 1
    for lane, (_, _, room) in enumerate(asks[1]):
        served = [letter for letter in plain_letters(asks) if plain_serves_letter(asks, answers, lane, letter)]
        many *= sum(len(served) ** lying for lying in range(room + 1))
        if many > most:
            return None
        fits.append([row for lying in range(room + 1) for row in itertools.product(served, repeat=lying)])
    return list(itertools.product(*fits))


def with_room(net, room):
    return (net[0], tuple((start, end, room) for start, end, _ in net[1]), net[2])


class Lots(unittest.TestCase):

    def test_against_a_plain_striking_out(self):
        sizes = set()
        for asks, answers in PAIRS:
            told = plain_lot(asks, answers)
            self.assertEqual(repr(result(ask_lot, asks, answers)), repr(told), (asks, answers))
            self.assertIs(result(ask_free, asks, answers), told == ())
            sizes.add(len(told))
        self.assertGreater(len(sizes), 8)

    def test_against_all_lots_of_small_nets(self):
        met = []
        for asks, answers in SMALL:
            lots = plain_lots(asks, answers)
            if lots or ask_free(asks, answers):
                lanes = {lane for lot in lots for lane, _ in lot}
                told = ask_lot(asks, answers)
                self.assertEqual({lane for lane, _ in told}, lanes)
                for lane, letter in told:
                    self.assertEqual(letter, min(dict(lot)[lane] for lot in lots if lane in dict(lot)))
                met.append(lots != [])
        self.assertGreater(min(met.count(True), met.count(False)), 15)

    def test_a_stand_is_stuck_exactly_if_there_is_a_lot(self):
        met = []
        for asks, answers in SMALL:
            for room in (1, 2):
                one, other = with_room(asks, room), with_room(answers, room)
                stands = all_stands(one, other)
                if stands is not None:
                    stuck = [stand for stand in stands if any(stand) and not plain_ask_moves(one, other, stand)]
                    self.assertIs(ask_free(one, other), stuck == [])
                    for stand in stuck[:5]:
                        self.assertIs(ask_stuck(one, other, stand), True)
                    met.append(stuck != [])
        self.assertGreater(min(met.count(True), met.count(False)), 15)

    def test_each_stand_can_be_come_to(self):
        chance = random.Random(175)
        for asks, answers in PAIRS[::4]:
            told = random_ask_stand(chance, asks, answers)
            stand = empty(asks)
            for lane, row in enumerate(told):
                for letter in row:
                    stand = ask_done(asks, answers, stand, ("in", lane, letter))
            self.assertEqual(stand, told)

    def test_letters_that_go_as_they_like_are_never_stuck_without_a_lot(self):
        chance = random.Random(176)
        count = 0
        for asks, answers in PAIRS:
            if ask_free(asks, answers) and len(asks[1]) > 0:
                stand = empty(asks)
                for _ in range(30):
                    lane = chance.randrange(len(asks[1]))
                    letter = chance.choice(plain_letters(asks))
                    put = plain_ask_done(asks, answers, stand, ("in", lane, letter))
                    moves = ask_moves(asks, answers, stand)
                    if put is not None:
                        stand = put
                    elif moves:
                        stand = ask_done(asks, answers, stand, chance.choice(moves))
                    self.assertIs(ask_stuck(asks, answers, stand), False)
                    count += any(stand)
        self.assertGreater(count, 200)

    def test_rooms_do_not_matter(self):
        for asks, answers in PAIRS:
            for room in (1, 4):
                self.assertEqual(
                    ask_lot(with_room(asks, room), with_room(answers, room)), ask_lot(asks, answers),
                )

    def test_names_of_lanes_do_not_matter(self):
        chance = random.Random(177)
        for asks, answers in PAIRS[::3]:
            order = tuple(chance.sample(range(len(asks[1])), len(asks[1])))
            told = ask_lot(relaned(asks, order), relaned(answers, order))
            self.assertEqual(sorted((order[lane], letter) for lane, letter in told), list(ask_lot(asks, answers)))

    def test_free_together_is_more_than_each_free_by_itself(self):
        count = 0
        for asks, answers in PAIRS:
            if ask_free(asks, answers):
                self.assertTrue(free(asks) and free(answers))
            count += free(asks) and free(answers) and not ask_free(asks, answers)
        self.assertGreater(count, 20)

    def test_answers_alone_are_a_net(self):
        for net in LOT_NETS + tuple(pair[1] for pair in GREAT):
            mute = (*net[:2], (((),) * net[0],) * net[0])
            told = tuple((lane, ("answer", aim)) for lane, aim in greatest_lot(net))
            self.assertEqual(result(ask_lot, mute, net), told)

    def test_by_hand(self):
        self.assertEqual(repr(result(ask_lot, ALONE, ALONE)), "()")
        self.assertEqual(repr(result(ask_lot, BARE, BARE)), "()")
        self.assertEqual(repr(result(ask_lot, UNTOLD, UNTOLD)), "()")
        self.assertEqual(result(ask_lot, THERE, THERE), ((0, ("ask", 1, 0)), (1, ("ask", 0, 1))))
        # Answers come ahead of asks, as their word is the lesser one.
        ring = ((0, ("answer", 2)), (1, ("answer", 0)), (2, ("answer", 1)))
        self.assertEqual(result(ask_lot, WHEEL, WHEEL), ring)
        mute = (*WHEEL[:2], (((),) * 3,) * 3)
        dead = ((0, ("ask", 1, 0)), (1, ("ask", 0, 0)), (2, ("ask", 0, 1)))
        self.assertEqual(result(ask_lot, WHEEL, mute), dead)
        self.assertEqual(result(ask_lot, LOST, LOST), ((0, ("answer", 2)),))
        # An ask of its own house at its aim is home; all others need a lane of the answers.
        one = (2, ((0, 1, 1), (1, 0, 1)), (((), (0,)), ((), ())))
        self.assertEqual(result(ask_lot, one, (*one[:2], (((), ()), ((1,), ())))), ())
        self.assertEqual(result(ask_lot, one, (*one[:2], (((), ()), ((), ())))), ((0, ("ask", 1, 0)),))


class Filling(unittest.TestCase):

    def test_as_often_as_the_room_and_then_all_are_stuck(self):
        rooms = set()
        for asks, answers in PAIRS:
            for lot in [ask_lot(asks, answers)] * (not ask_free(asks, answers)) + plain_lots(asks, answers, 500)[:10]:
                told = []
                for lane, letter in lot:
                    told += [("in", lane, letter)] * asks[1][lane][2]
                    rooms.add(asks[1][lane][2])
                deeds = result(ask_filling, asks, answers, lot)
                self.assertEqual(repr(deeds), repr(tuple(told)))
                stand = empty(asks)
                for deed in deeds:
                    stand = ask_done(asks, answers, stand, deed)
                self.assertIsNone(ask_stand_error(asks, answers, stand))
                self.assertIs(ask_stuck(asks, answers, stand), True)
        self.assertEqual(rooms, {1, 2, 3, 4})

    def test_any_lot_will_do(self):
        for lot in (((0, ("ask", 1, 0)), (1, ("ask", 0, 1))), ((0, ("answer", 1)), (1, ("ask", 0, 1)))):
            told = tuple(("in", lane, letter) for lane, letter in lot)
            self.assertEqual(result(ask_filling, DESK, DESK, lot), told)


class Apart(unittest.TestCase):

    def test_against_the_tables(self):
        met = []
        for asks, answers in PAIRS:
            told = all(not plain_aims(asks, k) or not plain_aims(answers, k) for k in range(len(asks[1])))
            self.assertIs(result(apart, asks, answers), told)
            met.append(told)
        self.assertGreater(min(met.count(True), met.count(False)), 50)

    def test_free_where_both_are_apart(self):
        met = set()
        for asks, answers in PAIRS:
            if not apart(asks, answers):
                continue
            ends = {end for k, (_, end, _) in enumerate(asks[1]) if end in plain_aims(asks, k)}
            led = all(answers[2][d][u] != () for d in ends for u in range(asks[0]) if u != d)
            both = free(asks) and free(answers)
            self.assertIs(ask_free(asks, answers), both and led)
            met.add((both, led))
        self.assertEqual(len(met), 4)

    def test_by_hand(self):
        for asks, answers, told in (
            (ALONE, ALONE, True), (BARE, BARE, True), (UNTOLD, UNTOLD, True), (DESK, DESK, False), (PAIR, PAIR, False),
            (THERE, HOME_AGAIN, True), (THERE, MUTE, True), (MUTE, THERE, True), (TWO, TWO, False), (FORK, FORK, False),
        ):
            self.assertIs(result(apart, asks, answers), told)
        # One lane that serves 0 in asks and 1 in answers is enough.
        lanes = ((2, 0, 1), (2, 1, 1))
        one = (3, lanes, (((),) * 3, ((),) * 3, ((0,), (), ())))
        other = (3, lanes, (((),) * 3, ((),) * 3, ((), (0, 1), ())))
        self.assertIs(result(apart, one, other), False)
        self.assertIs(result(apart, one, (3, lanes, (((),) * 3, ((),) * 3, ((), (1,), ())))), True)


class Errors(unittest.TestCase):

    def test_unlike_nets_go_ahead_of_all_else(self):
        more = (3, DESK[1], (((), (0,), ()), ((1,), (), ()), ((), (), ())))
        for asks, answers in ((ALONE, BARE), (DESK, THERE), (DESK, PAIR), (DESK, more), (WHEEL, HALL), (SIX, SIXTEEN),
                              (TWO, relaned(TWO, (1, 0, 2))), (UNTOLD, WHEEL)):
            for one, other in ((asks, answers), (answers, asks)):
                for function in (ask_free, ask_lot, apart):
                    self.assertEqual(fields(Unfit, function, one, other), {})
                for lot in (((0, ("ask", 1, 0)), (1, ("ask", 0, 1))), ()):
                    self.assertEqual(fields(Unfit, ask_filling, one, other, lot), {})


class Calls(unittest.TestCase):

    def test_great_nets_take_little_time(self):
        self.assertGreater(len([1 for asks, _ in GREAT if len(asks[1]) == 16]), 2)
        trees = on_lanes_apart(up_down(6, grid(3, 2, 1)[1], 0), (6, ((0, 1, 1),), (((),) * 6,) * 6))
        for asks, answers in GREAT + [trees]:
            lot = in_time(ask_lot, asks, answers)[1]
            self.assertEqual(in_time(ask_free, asks, answers), ("returned", lot == ()))
            self.assertEqual(in_time(ask_filling, asks, answers, lot)[0], "returned")
            self.assertEqual(in_time(apart, asks, answers)[0], "returned")

    def test_equal_calls_get_equal_results_also_with_others_between(self):
        calls = []
        for asks, answers in PAIRS[::3] + [(DESK, THERE)]:
            calls += [(function, (asks, answers)) for function in (ask_free, ask_lot, apart)]
        self.assertTrue(steady(calls))


if __name__ == "__main__":
    unittest.main()
