"""M1 to M3, M5 so far as it speaks of benches, and A3 for their arguments."""

import itertools
import random
import unittest
from unittest import mock

from roomahead.benches import Bench, bench_behind
from roomahead.choices import with_choice, without_choice
from roomahead.errors import (
    BadLog, BadNet, NoNet, NoVersion, NothingToRedo, NothingToUndo, Taken, TooMany, TooManyEdits, Unfit,
)
from roomahead.judging import judgement
from roomahead.lots import free
from roomahead.nets import net_error
from roomahead.papers import paper
from roomahead.prices import most_letters
from roomahead.shells import Shell
from tests.helper import (
    ALONE, BARE, BLIND, FORK, HALL, NETS, PAIR, SIX, SIXTEEN, TANGLE, TWO, UNTOLD, WHEEL, WRONG_VALUES, great_nets,
    in_time, outcome, random_nets,
)

SOME_NETS = NETS + tuple(random_nets(200, 6)) + tuple(great_nets(201, 3))
GOOD_NAMES = ("a", "z", "round", "fork", "abcdefghijkl", "zzzzzzzzzzzz", "mm")
BAD_NAMES = ("", "A", "aB", "a1", "a b", " a", "a ", "a\n", "\n", "abcdefghijklm", "a" * 20000, "a-b", "a_b", "{", "`")
BAD_NAMES += tuple(value for value in WRONG_VALUES if value not in ("in", "none")) + (b"a", ["a"], ("a",), {"a": 1})
BAD_NETS = ((WHEEL[:2], "form"), (list(WHEEL), "form"), (None, "form"), ((7,) + WHEEL[1:], "houses"),
            ((True, (), (((),),)), "houses"), ((3, [], WHEEL[2]), "lanes"), ((3, ((0, 1, 5),), WHEEL[2]), ("lane", 0)),
            (HALL[:2] + (FORK[2][:2],), "tables"), (WHEEL[:2] + (((), (), ()),), ("house", 0)),
            ((3, HALL[1][:3], HALL[2]), ("table", 2, 0)))
EDITS = {"put": 2, "drop": 1, "way": 4, "bar": 4, "room": 3}


def raised(kind, **told):
    return ("raised", kind, told)


def returned(value):
    return ("returned", value)


def tell(bench, word, *given):
    """What a method of the bench comes to; what is handed in must stay as it is."""
    before = repr(given)
    told = outcome(getattr(bench, word), given, {})
    assert repr(given) == before, (word, given)
    return told


def look(bench):
    """All that can be seen of a bench without a judgement."""
    return (bench.names, bench.version, bench.log, bench.judged, [bench.at(k) for k in range(bench.version + 1)],
            [(name, bench.net(name)) for name in bench.names])


def bench_with(*nets):
    """A bench that keeps these nets by the names a, b, and so on."""
    bench = Bench()
    for name, net in zip("abcdef", nets):
        bench.put(name, net)
    return bench


def full_bench():
    """A bench with as many edits as there may be: a net a, and then rooms of its lane 0."""
    bench = bench_with(WHEEL)
    for k in range(39):
        bench.room("a", 0, k % 4 + 1)
    return bench


class Names(unittest.TestCase):

    def test_what_is_a_name(self):
        for name in GOOD_NAMES:
            bench = Bench()
            self.assertEqual(tell(bench, "put", name, PAIR), returned(1))
            self.assertEqual(bench.names, (name,))
            self.assertEqual(bench.net(name), PAIR)
        for name in BAD_NAMES:
            bench = bench_with(PAIR)
            for net in (WHEEL, None):
                self.assertEqual(tell(bench, "put", name, net), raised(Unfit))
            self.assertEqual(bench.names, ("a",))

    def test_no_net_for_any_value(self):
        bench = bench_with(PAIR)
        for value in GOOD_NAMES[1:] + BAD_NAMES + (PAIR, bench, Bench, Shell()):
            for word, rest in (("net", ()), ("drop", ()), ("way", (None, 1, ())), ("bar", (0, 0, 0)), ("room", (0, 9)),
                               ("free", ()), ("paper", ()), ("most", ())):
                told = tell(bench, word, value, *rest)
                self.assertEqual(told[:2], ("raised", NoNet))
                self.assertIs(told[2]["given"], value)

    def test_they_ascend(self):
        for names in itertools.permutations(("b", "ab", "a", "ba")):
            bench = Bench()
            for name, net in zip(names, NETS):
                bench.put(name, net)
            self.assertEqual(bench.names, ("a", "ab", "b", "ba"))
            self.assertEqual(bench.at(4), tuple(sorted(zip(names, NETS))))

    def test_a_new_bench(self):
        self.assertEqual(repr(look(Bench())), repr(((), 0, (), 0, [()], [])))

    def test_what_can_only_be_read(self):
        bench = bench_with(WHEEL)
        before = look(bench)
        for name in ("names", "version", "log", "judged"):
            self.assertIsInstance(vars(Bench)[name], property)
            with self.assertRaises(AttributeError):
                setattr(bench, name, 1)
        self.assertEqual(look(bench), before)


class Edits(unittest.TestCase):

    def test_put_and_drop(self):
        bench = Bench()
        self.assertEqual(tell(bench, "put", "a", WHEEL), returned(1))
        self.assertEqual(tell(bench, "put", "b", WHEEL), returned(2))
        self.assertEqual(tell(bench, "drop", "a"), returned(3))
        self.assertEqual(tell(bench, "drop", "a"), raised(NoNet, given="a"))
        self.assertEqual(tell(bench, "put", "a", SIX), returned(4))
        self.assertEqual(look(bench)[4:], (
            [(), (("a", WHEEL),), (("a", WHEEL), ("b", WHEEL)), (("b", WHEEL),), (("a", SIX), ("b", WHEEL))],
            [("a", SIX), ("b", WHEEL)],
        ))
        self.assertEqual(bench.log, (("put", ("a", WHEEL)), ("put", ("b", WHEEL)), ("drop", ("a",)), ("put", ("a", SIX))))

    def test_nets_that_are_none(self):
        for net, error in BAD_NETS:
            bench = bench_with(PAIR)
            # Also ahead of a name that is taken.
            for name in ("b", "a"):
                self.assertEqual(tell(bench, "put", name, net), raised(BadNet, error=error))
            self.assertEqual(net_error(net), error)
            self.assertEqual(bench.version, 1)
        for value in WRONG_VALUES + (Bench(), (3, Bench(), ()), (1, (), ((Bench(),),))):
            self.assertEqual(tell(Bench(), "put", "a", value), raised(BadNet, error=net_error(value)))

    def test_ways_and_bars(self):
        chance = random.Random(203)
        for net in SOME_NETS:
            houses, lanes = range(-1, net[0] + 1), range(-1, len(net[1]) + 1)
            choices = list(itertools.product(houses, houses, lanes))
            for choice in chance.sample(choices, min(len(choices), 300)):
                for word, function in (("way", with_choice), ("bar", without_choice)):
                    bench = Bench()
                    bench.put("mm", net)
                    told = outcome(function, (net, choice), {})
                    if told[0] == "raised":
                        self.assertEqual(tell(bench, word, "mm", *choice), raised(Unfit))
                        self.assertEqual(bench.version, 1)
                    else:
                        self.assertEqual(tell(bench, word, "mm", *choice), returned(2))
                        self.assertEqual(bench.net("mm"), told[1])
                        self.assertEqual(bench.log[1], (word, ("mm", *choice)))

    def test_rooms(self):
        for net in SOME_NETS:
            bench, now = bench_with(net), net
            for lane, room in itertools.product(range(-1, len(net[1]) + 1), range(6)):
                if lane in range(len(net[1])) and 1 <= room <= 4:
                    if bench.version == 40:
                        break
                    start, end, _ = net[1][lane]
                    now = (now[0], (*now[1][:lane], (start, end, room), *now[1][lane + 1:]), now[2])
                    self.assertEqual(tell(bench, "room", "a", lane, room), returned(bench.version))
                    self.assertEqual(bench.log[-1], ("room", ("a", lane, room)))
                else:
                    self.assertEqual(tell(bench, "room", "a", lane, room), raised(Unfit))
                self.assertEqual(repr(bench.net("a")), repr(now))

    def test_any_values_are_no_integers(self):
        bench = bench_with(FORK)
        bench.way("a", 1, 0, 1)
        for value in (True, False, None, "1", (1,), [1], {}, 10 ** 399, -1, -(10 ** 399), bench, "1" * 20000):
            for word, good in (("way", (1, 2, 3)), ("bar", (1, 0, 1)), ("room", (1, 1))):
                for place in range(len(good)):
                    given = good[:place] + (value,) + good[place + 1:]
                    self.assertEqual(tell(bench, word, "a", *given), raised(Unfit), (word, given))
        self.assertEqual(bench.version, 2)
        self.assertEqual(tell(bench, "way", "a", 1, 2, 3), returned(3))

    def test_the_same_room_again_is_an_edit_too(self):
        bench = bench_with(WHEEL)
        self.assertEqual(tell(bench, "room", "a", 0, 1), returned(2))
        self.assertEqual(bench.net("a"), WHEEL)

    def test_the_order_of_the_errors_of_put(self):
        bench = bench_with(*NETS[:6])
        for k in range(34):
            bench.room("a", 0, k % 4 + 1)
        self.assertEqual((len(bench.names), bench.version), (6, 40))
        self.assertEqual(tell(bench, "put", "A", None), raised(Unfit))
        self.assertEqual(tell(bench, "put", "a", None), raised(BadNet, error="form"))
        self.assertEqual(tell(bench, "put", "a", WHEEL), raised(Taken, given="a"))
        self.assertEqual(tell(bench, "put", "g", WHEEL), raised(TooMany, limit=6))
        bench.undo()
        bench.drop("f")
        self.assertEqual(tell(bench, "put", "g", WHEEL), raised(TooManyEdits))
        self.assertEqual(tell(bench, "put", "b", WHEEL), raised(Taken, given="b"))

    def test_the_order_of_the_errors_of_the_others(self):
        bench = full_bench()
        self.assertEqual(bench.version, 40)
        for word, bad, good in (("way", (0, 0, 0), (1, 0, 0)), ("bar", (True, 1, 0), (0, 1, 0)), ("room", (3, 1), (0, 1))):
            self.assertEqual(tell(bench, word, "b", *bad), raised(NoNet, given="b"))
            self.assertEqual(tell(bench, word, "a", *bad), raised(Unfit))
            if word != "way":
                self.assertEqual(tell(bench, word, "a", *good), raised(TooManyEdits))
        self.assertEqual(tell(bench, "drop", "b"), raised(NoNet, given="b"))
        self.assertEqual(tell(bench, "drop", "a"), raised(TooManyEdits))
        bench = bench_with(FORK)
        for k in range(39):
            bench.room("a", 0, k % 4 + 1)
        self.assertEqual(tell(bench, "way", "a", 1, 0, 1), raised(TooManyEdits))

    def test_six_names(self):
        bench = bench_with(*NETS[:6])
        self.assertEqual(tell(bench, "put", "g", WHEEL), raised(TooMany, limit=6))
        bench.drop("c")
        self.assertEqual(tell(bench, "put", "g", WHEEL), returned(8))
        self.assertEqual(bench.names, ("a", "b", "d", "e", "f", "g"))

    def test_forty_edits(self):
        bench = full_bench()
        before = look(bench)
        self.assertEqual(tell(bench, "room", "a", 0, 1), raised(TooManyEdits))
        self.assertEqual(look(bench), before)
        self.assertEqual([bench.undo(), bench.undo(), bench.redo()], [39, 38, 39])
        self.assertEqual(tell(bench, "drop", "a"), returned(40))
        self.assertEqual(tell(bench, "put", "a", WHEEL), raised(TooManyEdits))

    def test_arguments_by_name(self):
        bench = Bench()
        self.assertEqual(bench.put(net=FORK, name="a"), 1)
        self.assertEqual(bench.way(name="a", house=1, aim=0, lane=1), 2)
        self.assertEqual(bench.bar(lane=1, aim=0, house=1, name="a"), 3)
        self.assertEqual(bench.room(name="a", room=4, lane=0), 4)
        self.assertEqual(bench.at(version=1), (("a", FORK),))
        self.assertEqual([bench.free(name="a"), bench.most(name="a"), bench.paper(name="a")[0]], [True, None, "free"])
        self.assertEqual(bench.net(name="a")[1][0], (0, 1, 4))
        self.assertEqual(bench.drop(name="a"), 5)
        self.assertEqual(bench_behind(log=bench.log), bench)


class BackAndForth(unittest.TestCase):

    def test_nothing_to_undo_or_to_redo(self):
        bench = Bench()
        self.assertEqual(tell(bench, "undo"), raised(NothingToUndo))
        self.assertEqual(tell(bench, "redo"), raised(NothingToRedo))
        bench.put("a", WHEEL)
        self.assertEqual(tell(bench, "redo"), raised(NothingToRedo))
        self.assertEqual(tell(bench, "undo"), returned(0))
        self.assertEqual(tell(bench, "undo"), raised(NothingToUndo))
        self.assertEqual(tell(bench, "redo"), returned(1))
        self.assertEqual(tell(bench, "redo"), raised(NothingToRedo))

    def test_a_new_edit_forgets_what_was_taken_back(self):
        bench = bench_with(WHEEL, FORK, PAIR)
        bench.undo()
        bench.undo()
        bench.put("z", HALL)
        self.assertEqual(bench.names, ("a", "z"))
        self.assertEqual(tell(bench, "redo"), raised(NothingToRedo))
        self.assertEqual(bench.log, (("put", ("a", WHEEL)), ("put", ("z", HALL))))

    def test_what_is_refused_forgets_nothing(self):
        bench = bench_with(WHEEL, FORK)
        bench.undo()
        before = look(bench)
        for word, given in (("put", ("A", PAIR)), ("put", ("c", None)), ("put", ("a", PAIR)), ("drop", ("b",)),
                            ("way", ("a", 0, 0, 0)), ("bar", ("a", 0, 1, 1)), ("room", ("a", 0, 5)), ("at", (2,)),
                            ("net", ("b",)), ("free", (None,))):
            self.assertEqual(tell(bench, word, *given)[0], "raised")
            self.assertEqual(look(bench), before)
        self.assertEqual(tell(bench, "redo"), returned(2))
        self.assertEqual(bench.net("b"), FORK)

    def test_at(self):
        bench = bench_with(WHEEL, FORK, PAIR)
        bench.drop("b")
        bench.undo()
        for version, names in enumerate(("", "a", "ab", "abc")):
            self.assertEqual(tell(bench, "at", version), returned(tuple(zip(names, (WHEEL, FORK, PAIR)))))
        for value in (4, 5, -1, True, False, None, "1", (1,), [], 10 ** 399, -(10 ** 399), bench):
            told = tell(bench, "at", value)
            self.assertEqual(told[:2], ("raised", NoVersion))
            self.assertIs(told[2]["given"], value)
        bench.redo()
        self.assertEqual(tell(bench, "at", 4), returned((("a", WHEEL), ("c", PAIR))))

    def test_what_was_returned_stays_as_it_was(self):
        bench = bench_with(WHEEL, FORK)
        told = (bench.log, bench.names, bench.at(2), bench.net("a"), bench.paper("a"))
        before = repr(told)
        bench.room("a", 0, 4)
        bench.undo()
        bench.undo()
        bench.put("c", PAIR)
        self.assertEqual(repr(told), before)


class Copies(unittest.TestCase):

    def test_each_goes_its_own_way(self):
        bench = bench_with(WHEEL, FORK)
        bench.free("a")
        bench.undo()
        other = bench.copy()
        self.assertIs(type(other), Bench)
        self.assertEqual(look(other), look(bench))
        before = look(bench)
        # What was taken back is in the copy, too.
        self.assertEqual(tell(other, "redo"), returned(2))
        other.room("a", 0, 3)
        other.free("b")
        self.assertEqual(look(bench), before)
        after = look(other)
        bench.put("z", PAIR)
        bench.undo()
        bench.undo()
        bench.free("a") if "a" in bench.names else bench.redo()
        self.assertEqual(look(other), after)
        self.assertEqual([other.undo(), other.undo(), other.undo()], [2, 1, 0])

    def test_a_copy_of_a_copy(self):
        bench = full_bench()
        other = bench.copy().copy()
        self.assertEqual(look(other), look(bench))
        for _ in range(40):
            other.undo()
        self.assertEqual((other.names, bench.names), ((), ("a",)))
        for _ in range(40):
            other.redo()
        self.assertEqual(look(other), look(bench))


class Equality(unittest.TestCase):

    def test_names_and_nets_alone(self):
        one, other = bench_with(WHEEL, FORK), Bench()
        other.put("b", FORK)
        other.put("c", PAIR)
        other.put("a", WHEEL)
        self.assertIs(one == other, False)
        self.assertIs(one != other, True)
        other.drop("c")
        # The edits, what was taken back, and judgements do not matter.
        one.free("a")
        one.put("z", PAIR)
        one.undo()
        self.assertIs(one == other, True)
        self.assertIs(one != other, False)
        self.assertIs(Bench() == Bench(), True)

    def test_other_nets_or_other_names(self):
        for one, other in itertools.product(
            (Bench(), bench_with(WHEEL), bench_with(FORK), bench_with(WHEEL, FORK), bench_with(FORK, WHEEL)), repeat=2,
        ):
            self.assertIs(one == other, one is other)
            self.assertIs(one != other, one is not other)
        named = Bench()
        named.put("b", WHEEL)
        self.assertIs(named == bench_with(WHEEL), False)
        self.assertIs(named == bench_with(WHEEL, WHEEL), False)

    def test_other_values(self):
        bench = bench_with(WHEEL)
        for value in WRONG_VALUES + (bench.at(1), bench.log, (("a", WHEEL),), {"a": WHEEL}, Bench, Shell(), object()):
            self.assertIs(bench == value, False)
            self.assertIs(bench != value, True)
            self.assertIs(value == bench, False)
            self.assertIs(value != bench, True)
        self.assertIs(Bench() == (), False)
        self.assertIs(Bench() == {}, False)


class Judgements(unittest.TestCase):

    def test_what_they_tell(self):
        for net in SOME_NETS:
            bench = bench_with(net)
            self.assertEqual(tell(bench, "free", "a"), returned(free(net)))
            self.assertEqual(tell(bench, "paper", "a"), returned(paper(net)))
            self.assertEqual(tell(bench, "most", "a"), returned(most_letters(net)))
            self.assertEqual(bench.judged, 1)

    def test_each_of_the_three_judges(self):
        for word in ("free", "paper", "most"):
            bench = bench_with(WHEEL, FORK)
            self.assertEqual(bench.judged, 0)
            tell(bench, word, "a")
            self.assertEqual(bench.judged, 1)
            for other in ("free", "paper", "most"):
                tell(bench, other, "a")
            self.assertEqual(bench.judged, 1)
            tell(bench, word, "b")
            self.assertEqual(bench.judged, 2)

    def test_nothing_else_judges(self):
        bench = bench_with(WHEEL, FORK)
        bench.free("a")
        bench.room("a", 0, 2)
        bench.way("b", 1, 0, 1)
        bench.bar("b", 1, 0, 1)
        bench.undo()
        bench.redo()
        bench.drop("b")
        look(bench)
        bench.copy().free("a")
        bench_behind(bench.log).free("a")
        for value in ("b", None, "A"):
            self.assertEqual(tell(bench, "free", value), raised(NoNet, given=value))
        self.assertEqual(bench.judged, 1)

    def test_nothing_is_judged_anew(self):
        bench = bench_with(WHEEL, FORK)
        with mock.patch("roomahead.benches.judgement", side_effect=judgement) as judging:
            for word in ("free", "paper", "most", "free"):
                for name in ("a", "b", "a"):
                    tell(bench, word, name)
            bench.put("c", WHEEL)
            bench.free("c")
            bench.copy().free("b")
        self.assertEqual([call.args for call in judging.call_args_list], [(WHEEL,), (FORK,)])

    def test_the_same_net_behind_edits_and_under_another_name(self):
        bench = bench_with(WHEEL)
        bench.free("a")
        bench.room("a", 0, 2)
        bench.room("a", 0, 1)
        bench.most("a")
        bench.put("b", (3, tuple(WHEEL[1]), tuple(WHEEL[2])))
        bench.paper("b")
        self.assertEqual(bench.judged, 1)
        bench.room("a", 0, 2)
        bench.most("a")
        self.assertEqual(bench.judged, 2)
        bench.undo()
        bench.undo()
        bench.free("a")
        self.assertEqual(bench.judged, 2)

    def test_copies_keep_judgements_up_to_then(self):
        bench = bench_with(WHEEL, FORK, PAIR)
        bench.free("a")
        other = bench.copy()
        bench.free("b")
        other.free("a")
        self.assertEqual((bench.judged, other.judged), (2, 1))
        other.free("c")
        other.free("b")
        self.assertEqual((bench.judged, other.judged), (2, 3))


class Behind(unittest.TestCase):

    def test_there_and_back(self):
        bench = bench_with(WHEEL, FORK)
        bench.way("b", 1, 0, 1)
        bench.room("a", 2, 4)
        bench.drop("a")
        bench.put("a", PAIR)
        bench.undo()
        again = bench_behind(bench.log)
        self.assertEqual(again, bench)
        self.assertEqual(look(again), look(bench))
        while bench.version > 0:
            self.assertEqual(again.undo(), bench.undo())
            self.assertEqual(look(again), look(bench))
        # What was taken back is no part of a log.
        self.assertEqual(tell(bench_behind(bench.log), "redo"), raised(NothingToRedo))

    def test_what_is_no_tuple(self):
        for value in WRONG_VALUES + ([("put", ("a", WHEEL))], Bench(), "put"):
            if type(value) is not tuple:
                self.assertEqual(outcome(bench_behind, (value,), {}), raised(BadLog, place=0))

    def test_the_first_wrong_place(self):
        good = (("put", ("a", FORK)), ("way", ("a", 1, 0, 1)), ("room", ("a", 0, 4)), ("drop", ("a",)))
        self.assertEqual(bench_behind(good).names, ())
        wrong = [
            None, (), "put", ("put",), ("put", "ab"), ["put", ("c", PAIR)], ("put", ["c", PAIR]), ("put", ("c", PAIR), 0),
            ("put", ("c",)), ("put", ("c", PAIR, 0)), ("put", (("c", PAIR))[:1]), ("Put", ("c", PAIR)), ("net", ("a",)),
            ("undo", ()), ("free", ("a",)), ("at", (0,)), ("copy", ()), (("put",), ("c", PAIR)), (["put"], ("c", PAIR)),
            ({}, ("c", PAIR)), (None, ("c", PAIR)), (1, ()), ("drop", ()), ("drop", ("a", "a")), ("way", ("a", 1, 0)),
            ("bar", ("a", 1, 0, 1, 0)), ("room", ("a", 0)), ("put", ("C", PAIR)), ("put", ("c", None)), ("drop", ("zz",)),
            ("drop", ([],)), ("way", ("a", 1, 0, 3)), ("bar", ("a", 1, 0, 0)), ("room", ("a", 0, 5)),
            ("room", ("a", True, 1)), (Bench(), ("c", PAIR)), Bench(), ("__init__", ()), ("__eq__", (1,)),
        ]
        for item, place in itertools.product(wrong, range(5)):
            log = good[:place] + (item,) + good[place:]
            self.assertEqual(outcome(bench_behind, (log,), {}), raised(BadLog, place=place), log)
            # A later wrong one is not told.
            self.assertEqual(outcome(bench_behind, (log + (None,),), {}), raised(BadLog, place=place))

    def test_any_values(self):
        for value in WRONG_VALUES:
            self.assertEqual(outcome(bench_behind, ((value,),), {}), raised(BadLog, place=0))
            self.assertEqual(outcome(bench_behind, ((("put", value),),), {}), raised(BadLog, place=0))
            self.assertEqual(outcome(bench_behind, ((("put", ("a", WHEEL)), ("drop", (value,))),), {}),
                             raised(BadLog, place=1))
            self.assertEqual(outcome(bench_behind, (((value, ("a",)),),), {}), raised(BadLog, place=0))

    def test_more_than_forty_edits(self):
        log = full_bench().log
        self.assertEqual(look(bench_behind(log)), look(full_bench()))
        self.assertEqual(outcome(bench_behind, (log + (("drop", ("a",)),),), {}), raised(BadLog, place=40))
        self.assertEqual(outcome(bench_behind, (log + (None,),), {}), raised(BadLog, place=40))
        names = tuple(("put", (name, PAIR)) for name in "abcdefg")
        self.assertEqual(outcome(bench_behind, (names,), {}), raised(BadLog, place=6))

    def test_no_edits(self):
        self.assertEqual(look(bench_behind(())), look(Bench()))


class Plain:
    """A bench once more, as M1 to M3 tell it: all nets behind each number of edits, in dicts."""

    def __init__(self):
        self.kept, self.edits, self.version, self.judged = [{}], [], 0, set()

    def edit(self, word, given):
        nets = dict(self.kept[self.version])
        name = given[0]
        if word == "put":
            if type(name) is not str or not 0 < len(name) < 13 or set(name) - set("abcdefghijklmnopqrstuvwxyz"):
                return raised(Unfit)
            if net_error(given[1]) is not None:
                return raised(BadNet, error=net_error(given[1]))
            if name in nets:
                return raised(Taken, given=name)
            if len(nets) == 6:
                return raised(TooMany, limit=6)
            nets[name] = given[1]
        elif type(name) is not str or name not in nets:
            return raised(NoNet, given=name)
        elif word == "drop":
            del nets[name]
        elif word == "room":
            lane, room = given[1:]
            if type(lane) is not int or type(room) is not int or lane not in range(len(nets[name][1])):
                return raised(Unfit)
            if room not in (1, 2, 3, 4):
                return raised(Unfit)
            houses, lanes, tables = nets[name]
            nets[name] = (houses, lanes[:lane] + ((*lanes[lane][:2], room),) + lanes[lane + 1:], tables)
        else:
            function = with_choice if word == "way" else without_choice
            told = outcome(function, (nets[name], given[1:]), {})
            if told[0] == "raised":
                return told
            nets[name] = told[1]
        if self.version == 40:
            return raised(TooManyEdits)
        self.kept, self.edits = self.kept[:self.version + 1] + [nets], self.edits[:self.version] + [(word, given)]
        self.version += 1
        return returned(self.version)

    def tell(self, word, *given):
        if word in EDITS:
            return self.edit(word, given)
        if word == "undo":
            if self.version == 0:
                return raised(NothingToUndo)
            self.version -= 1
            return returned(self.version)
        if word == "redo":
            if self.version == len(self.edits):
                return raised(NothingToRedo)
            self.version += 1
            return returned(self.version)
        nets = self.kept[self.version]
        if type(given[0]) is not str or given[0] not in nets:
            return raised(NoNet, given=given[0])
        net = nets[given[0]]
        self.judged.add(net)
        return returned({"free": free, "paper": paper, "most": most_letters}[word](net))

    def look(self):
        kept = [tuple(sorted(nets.items())) for nets in self.kept[:self.version + 1]]
        names = tuple(name for name, _ in kept[-1])
        return (names, self.version, tuple(self.edits[:self.version]), len(self.judged), kept, list(kept[-1]))

    def copy(self):
        other = Plain()
        other.kept, other.edits = list(self.kept), list(self.edits)
        other.version, other.judged = self.version, set(self.judged)
        return other


def random_call(chance, names, undos=2):
    words = ("put", "way", "bar", "room", "room", "redo", "free", "paper", "most", "drop") + ("undo",) * undos
    word = chance.choice(words)
    if word in ("undo", "redo"):
        return (word,)
    name = chance.choice(names)
    if word == "put":
        return (word, name, chance.choice((WHEEL, FORK, PAIR, HALL, TWO, ALONE, BARE, TANGLE, BLIND, UNTOLD, None, 5)))
    if word in ("way", "bar"):
        return (word, name, chance.choice((0, 1, 2, True)), chance.choice((0, 1, 2)), chance.choice((0, 1, 2, 3, "0")))
    if word == "room":
        return (word, name, chance.choice((0, 1, 2, 3, None)), chance.choice((1, 2, 3, 4, 0, 5)))
    return (word, name)


class Runs(unittest.TestCase):

    def test_long_runs(self):
        kinds, most = set(), 0
        for seed in range(40):
            chance = random.Random(seed)
            names = ("a", "b", "c", "d", "e", "f", "g", "A", None, []) if seed % 2 else ("a", "b", "a", "b", 7)
            pairs = [(Bench(), Plain())]
            for _ in range(600):
                bench, plain = pairs[-1]
                word, *given = random_call(chance, names, seed % 4)
                told = plain.tell(word, *given)
                self.assertEqual(repr(tell(bench, word, *given)), repr(told), (word, given))
                kinds.add((word, told[0] if told[0] == "returned" else told[1]))
                most = max(most, bench.version)
                if chance.random() < 0.015:
                    pairs.append((bench.copy(), plain.copy()))
                    chance.shuffle(pairs)
            for bench, plain in pairs:
                self.assertEqual(repr(look(bench)), repr(plain.look()))
                self.assertEqual(bench_behind(bench.log), bench)
                self.assertEqual(bench_behind(bench.log).log, bench.log)
        self.assertEqual(most, 40)
        for word, kind in (("put", Unfit), ("put", BadNet), ("put", Taken), ("put", TooMany), ("drop", NoNet),
                           ("way", Unfit), ("bar", Unfit), ("room", Unfit), ("room", TooManyEdits), ("undo", NothingToUndo),
                           ("redo", NothingToRedo), ("most", NoNet)):
            self.assertIn((word, kind), kinds)

    def test_edits_taken_back_and_done_again(self):
        for seed in range(30):
            chance = random.Random(seed)
            bench = Bench()
            for _ in range(40):
                tell(bench, *random_call(chance, ("a", "b", "c")))
            before, version = look(bench), bench.version
            back = chance.randint(0, version)
            for _ in range(back):
                bench.undo()
            for _ in range(back):
                bench.redo()
            self.assertEqual(look(bench), before)

    def test_great_nets_take_little_time(self):
        for net in (SIX, SIXTEEN) + tuple(great_nets(202, 6)):
            bench = bench_with(net)
            for word in ("free", "paper", "most", "net"):
                self.assertEqual(in_time(getattr(bench, word), "a")[0], "returned")
            self.assertEqual(in_time(bench_behind, bench.log)[0], "returned")


if __name__ == "__main__":
    unittest.main()
