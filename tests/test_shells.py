"""M4, M5 so far as it speaks of shells."""

import random
import re
import unittest

from roomahead.benches import Bench
from roomahead.deedtexts import deeds_text
from roomahead.errors import RoomError
from roomahead.lots import filling, free, greatest_lot
from roomahead.nettexts import net_text
from roomahead.prices import cheapest_lot, most_letters
from roomahead.shells import Shell
from roomahead.stands import empty
from tests.helper import (
    ALONE, BARE, DEAD, FORK, HALL, LOST, NETS, PAIR, SIX, SIXTEEN, TANGLE, TWO, UNTOLD, WANDER, WHEEL, WRONG_VALUES,
    great_nets, in_time, letters, plain_done, plain_read_deeds, plain_read_net, plain_stuck, random_nets, random_walk,
    spoiled,
)

NAME, INT, TEXT = "([a-z]{1,12})", "(0|[1-9][0-9]{0,2})", "((?s:.*))"
LINES = {
    "new": (), "put": (NAME, TEXT), "drop": (NAME,), "way": (NAME, INT, INT, INT), "bar": (NAME, INT, INT, INT),
    "room": (NAME, INT, INT), "undo": (), "redo": (), "names": (), "show": (NAME,), "free": (NAME,), "most": (NAME,),
    "lot": (NAME,), "judged": (), "play": (NAME, TEXT),
}
SOME_NETS = NETS + (LOST, DEAD, WANDER) + tuple(random_nets(210, 10)) + tuple(great_nets(211, 4))


class Plain:
    """A shell once more, by patterns, over a bench of the package."""

    def __init__(self):
        self.bench = Bench()

    def say(self, line):
        if not isinstance(line, str):
            return "what"
        for word, parts in LINES.items():
            found = re.fullmatch(" ".join((word,) + parts), line)
            if found:
                given = [int(part) if form == INT else part for part, form in zip(found.groups(), parts)]
                try:
                    return self.answer(word, *given)
                except RoomError as error:
                    return f"error {error.__class__.__name__}"
        return "what"

    def answer(self, word, *given):
        if word == "new":
            self.bench = Bench()
            return "version 0"
        if word == "put":
            net = plain_read_net(given[1])
            return "error BadText" if net is None else f"version {self.bench.put(given[0], net)}"
        if word in ("drop", "way", "bar", "room", "undo", "redo"):
            return f"version {getattr(self.bench, word)(*given)}"
        if word == "names":
            return " ".join(self.bench.names) or "none"
        if word == "judged":
            return str(self.bench.judged)
        if word == "play":
            return self.play(*given)
        if word == "free":
            return {True: "free", False: "stuck"}[self.bench.free(given[0])]
        if word == "most":
            return {None: "any"}.get(self.bench.most(given[0]), str(self.bench.most(given[0])))
        net = self.bench.net(given[0])
        if word == "show":
            return net_text(net)
        return " ".join(f"{lane}:{aim}" for lane, aim in greatest_lot(net)) or "none"

    def play(self, name, text):
        deeds = plain_read_deeds(text)
        if deeds is None:
            return "error BadText"
        net = self.bench.net(name)
        stand = empty(net)
        for place, deed in enumerate(deeds):
            fits = deed[1] < len(net[1]) and (deed[0] != "on" or deed[2] < len(net[1]))
            fits = fits and (deed[0] != "in" or deed[2] < net[0])
            behind = plain_done(net, stand, deed) if fits else None
            if behind is None:
                return f"refused {place}"
            stand = behind
        return "empty" if not letters(stand) else "stuck" if plain_stuck(net, stand) else "going"


def shell_with(*lines):
    shell = Shell()
    for line in lines:
        shell.say(line)
    return shell


def put(name, net):
    return f"put {name} {net_text(net)}"


def told(shell, *lines):
    """What the shell answers, each answer a string."""
    answers = [shell.say(line) for line in lines]
    assert all(type(answer) is str for answer in answers), answers
    return answers


class EachLine(unittest.TestCase):

    def test_edits(self):
        shell = Shell()
        self.assertEqual(told(
            shell, put("fork", FORK), put("a", PAIR), "way fork 1 0 1", "bar fork 1 0 3", "room fork 0 4", "drop a",
            "undo", "redo", "undo", "undo", "names",
        ), [f"version {k}" for k in (1, 2, 3, 4, 5, 6, 5, 6, 5, 4)] + ["a fork"])
        self.assertEqual(shell.say("show fork"), net_text((*FORK[:2], (FORK[2][0], ((1,), (), (1,)), FORK[2][2]))))

    def test_new(self):
        shell = shell_with(put("a", PAIR), "free a", "undo")
        self.assertEqual(told(shell, "judged", "new", "names", "judged", "redo", "undo", "new"),
                         ["1", "version 0", "none", "0", "error NothingToRedo", "error NothingToUndo", "version 0"])
        self.assertEqual(told(shell, put("a", PAIR), "names"), ["version 1", "a"])

    def test_names(self):
        shell = Shell()
        self.assertEqual(shell.say("names"), "none")
        for k, name in enumerate(("c", "a", "bb", "abcdefghijkl")):
            self.assertEqual(shell.say(put(name, BARE)), f"version {k + 1}")
        self.assertEqual(shell.say("names"), "a abcdefghijkl bb c")

    def test_what_nets_come_to(self):
        for net in SOME_NETS:
            shell = shell_with(put("net", net))
            most = most_letters(net)
            lot = greatest_lot(net)
            self.assertEqual(told(shell, "lot net", "judged", "show net", "free net", "most net", "judged"), [
                " ".join(f"{lane}:{aim}" for lane, aim in lot) if lot else "none", "0", net_text(net),
                "free" if free(net) else "stuck", "any" if most is None else str(most), "1",
            ])

    def test_play(self):
        shell = shell_with(put("w", WHEEL), put("s", TWO))
        for text, answer in (
            ("none", "empty"), ("in 0 1", "going"), ("in 0 1; out 0", "empty"), ("in 0 2; on 0 1; out 1", "empty"),
            ("in 0 2; in 1 0; in 2 1", "stuck"), ("in 0 2; in 0 2", "refused 1"), ("out 0", "refused 0"),
            ("in 0 0", "refused 0"), ("in 0 1; out 15", "refused 1"), ("in 0 1; on 0 15", "refused 1"),
            ("in 0 5", "refused 0"), ("in 3 0", "refused 0"), ("in 0 1; out 0; out 0; out 0", "refused 2"),
            ("", "error BadText"), (" in 0 1", "error BadText"), ("in 0 1;", "error BadText"), ("in 0 6", "error BadText"),
            ("in 0 1 ", "error BadText"), ("none ", "error BadText"), ("in 0 1\n", "error BadText"), ("x", "error BadText"),
        ):
            self.assertEqual(shell.say(f"play w {text}"), answer)
        self.assertEqual(told(shell, "play s in 0 1; in 0 1; in 1 1", "play s in 0 1; in 0 1; in 0 1", "judged"),
                         ["going", "refused 2", "0"])

    def test_play_of_400_deeds(self):
        shell = shell_with(put("w", WHEEL))
        deeds = (("in", 0, 1), ("out", 0)) * 200
        self.assertEqual(shell.say(f"play w {deeds_text(deeds)}"), "empty")
        self.assertEqual(shell.say(f"play w {deeds_text(deeds + (('in', 0, 1),))}"), "error BadText")
        self.assertEqual(shell.say(f"play w {deeds_text(deeds[1:])}"), "refused 0")
        self.assertEqual(shell.say(f"play w {deeds_text(deeds[:-1])}"), "going")
        self.assertEqual(shell.say(f"play w {deeds_text(deeds[:-1] + (('in', 0, 1),))}"), "refused 399")

    def test_play_of_lots_and_walks(self):
        chance = random.Random(212)
        met = set()
        for net in SOME_NETS:
            shell, plain = shell_with(put("n", net)), Plain()
            plain.say(put("n", net))
            walk = random_walk(chance, net, empty(net), 12)
            rows = [filling(net, greatest_lot(net)), filling(net, cheapest_lot(net)), walk, walk + walk[-1:]]
            rows += [walk + [("out", lane)] for lane in range(min(3, len(net[1])))]
            for row in rows:
                line = f"play n {deeds_text(tuple(row))}"
                self.assertEqual(shell.say(line), plain.say(line), line)
                met.add(shell.say(line).split(" ")[0])
        self.assertEqual(met, {"empty", "stuck", "going", "refused"})


class Errors(unittest.TestCase):

    def test_each_by_its_name(self):
        shell = shell_with(put("a", FORK))
        self.assertEqual(told(
            shell, put("a", FORK), "put b houses 7", "drop b", "way b 0 0 0", "way a 0 0 0", "bar a 1 0 1", "room a 0 0",
            "room a 0 5", "room a 4 1", "room a 999 999", "redo", "undo", "undo", "show a", "free a", "most a", "lot a",
            "play a none",
        ), [f"error {name}" for name in (
            "Taken", "BadText", "NoNet", "NoNet", "Unfit", "Unfit", "Unfit", "Unfit", "Unfit", "Unfit", "NothingToRedo",
        )] + ["version 0"] + [f"error {name}" for name in ("NothingToUndo",) + ("NoNet",) * 5])

    def test_bad_text_goes_ahead_of_all_others(self):
        shell = shell_with(*(put(name, PAIR) for name in "abcdef"))
        self.assertEqual(told(shell, put("g", PAIR), put("a", PAIR), "put g houses", "put a houses", "play z in"),
                         ["error TooMany", "error Taken", "error BadText", "error BadText", "error BadText"])
        for k in range(34):
            shell.say(f"room a 0 {k % 4 + 1}")
        shell.say("undo")
        shell.say("drop f")
        self.assertEqual(told(shell, put("g", PAIR), "put g ", "room a 0 1", "drop a", "play z none"),
                         ["error TooManyEdits", "error BadText", "error TooManyEdits", "error TooManyEdits", "error NoNet"])

    def test_what_goes_ahead_of_bad_text(self):
        self.assertEqual(told(Shell(), "put A x", "put  x", "put a1 houses 2", "play A x", "put abcdefghijklm houses 2"),
                         ["what"] * 5)

    def test_texts_that_are_none(self):
        shell = shell_with(put("a", PAIR))
        for text in ("", " ", " houses 2", "houses 2 ", "houses 2\n", "\nhouses 2", "houses  2", "houses 02", "houses 7",
                     "Houses 2", "houses 2\nlane 0 1 5", "houses 2\nway 0 1: 0", "none", "0" * 5000, "x" * 19000):
            self.assertEqual(shell.say(f"put b {text}"), "error BadText")
            if text != "none":
                self.assertEqual(shell.say(f"play a {text}"), "error BadText")
        self.assertEqual(told(shell, "names", "redo"), ["a", "error NothingToRedo"])

    def test_a_line_that_is_refused_changes_nothing(self):
        shell = shell_with(put("a", FORK), put("b", PAIR), "free b", "undo")
        for line in ("put a houses 2", "put b x", "drop b", "way a 0 0 0", "room a 0 5", "what", "names ", "most c"):
            self.assertIn(shell.say(line).split(" ")[0], ("error", "what"))
        self.assertEqual(told(shell, "names", "judged", "redo", "names"), ["a", "1", "version 2", "a b"])


class What(unittest.TestCase):

    def test_what_is_no_string(self):
        shell = shell_with(put("a", PAIR))
        for value in WRONG_VALUES + (b"names", ["names"], ("names",), {"names": 1}, Bench(), shell, Shell, PAIR):
            if not isinstance(value, str):
                self.assertEqual(told(shell, value), ["what"])
        self.assertEqual(told(shell, "names", "undo"), ["a", "version 0"])

    def test_lines_near_to_those_that_are_told(self):
        lines = [put("a", TWO), "drop a", "way a 0 1 1", "bar a 0 1 0", "room a 0 3", "new", "undo", "redo", "names",
                 "show a", "free a", "most a", "lot a", "judged", "play a in 0 1; out 0", put("b", PAIR), "play b none",
                 "way a 1 0 12", "room a 10 100"]
        met = {}
        for line in lines:
            for near in [line] + list(spoiled(line, " \n\t0aA-+.:;")):
                shell, plain = Shell(), Plain()
                for other in (shell, plain):
                    other.say(put("a", (*TWO[:2], (((), (0,)), ((2,), ())))))
                    other.say("room a 0 1")
                    other.say("undo")
                answer = told(shell, near)[0]
                self.assertEqual(answer, plain.say(near), near)
                self.assertEqual(told(shell, "names", "judged", "redo"), [plain.say(x) for x in ("names", "judged", "redo")])
                kind = answer.split(" ")[0]
                met[kind] = met.get(kind, 0) + 1
        self.assertGreater(min(met["what"], met["error"], met["version"]), 20)

    def test_blanks_too_many_or_too_few(self):
        shell = shell_with(put("a", FORK))
        for line in ("", " ", "  ", "names ", " names", "new ", "new x", "undo 1", "redo\n", "\nundo", "judged a", "drop",
                     "drop ", "drop a ", " drop a", "drop  a", "drop a b", "drop a\n", "dropa", "show", "show\na", "free a a",
                     "way a 1 0", "way a 1 0 1 ", "way a 1  0 1", "way a 1 0 1 1", "way a 101", "room a 0", "room a 0 1 1",
                     "room 0 1", "room  a 0 1", "put", "put a", "put\na houses 2", "put  a houses 2", "play", "play a",
                     "most", "lot ", "bar a 1 0 3\n", "bar a 1\t0 3", "names\nnames"):
            self.assertEqual(told(shell, line), ["what"], line)
        self.assertEqual(told(shell, "put b ", "play a ", "play a  none", "put b  houses 2"), ["error BadText"] * 4)

    def test_words_with_other_letters(self):
        shell = shell_with(put("a", FORK))
        for word in LINES:
            for other in (word.upper(), word.title(), word + "s", word[:-1], word[1:], "x" + word, word + ":"):
                if other not in LINES:
                    for rest in ("", " a", " a none", " a 0 1", " a 1 0 1"):
                        self.assertEqual(shell.say(other + rest), "what")

    def test_integers(self):
        shell = shell_with(put("a", FORK))
        for good in ("0", "1", "9", "10", "99", "100", "998", "999"):
            self.assertEqual(shell.say(f"way a {good} {good} {good}"), "error Unfit")
        for bad in ("00", "01", "007", "000", "1000", "9999", "-1", "+1", "-0", "1.0", "1e1", "0x1", "a", "1_0", "\u0661",
                    "\u00b2", "", "1" * 5000, "0" * 5000, "9" * 19000, "1\n"):
            for line in (f"way a {bad} 0 0", f"way a 0 {bad} 0", f"way a 0 0 {bad}", f"bar a 1 0 {bad}", f"room a {bad} 1",
                         f"room a 0 {bad}"):
                self.assertEqual(shell.say(line), "what", line[:40])
        self.assertEqual(told(shell, "room a 0 3", "room a 0 03"), ["version 2", "what"])

    def test_names_that_are_none(self):
        for name in ("", "A", "aB", "a1", "a-b", "a\n", "\na", "abcdefghijklm", "a" * 19000, "\u00e4", "a.", "_"):
            shell = Shell()
            for line in (f"put {name} houses 2", f"drop {name}", f"way {name} 0 1 0", f"room {name} 0 1", f"show {name}",
                         f"free {name}", f"most {name}", f"lot {name}", f"play {name} none"):
                self.assertEqual(shell.say(line), "what", line[:40])


class Runs(unittest.TestCase):

    def line(self, chance):
        word = chance.choice(tuple(LINES) + ("put", "room", "room", "play"))
        name = chance.choice(("a", "b", "c", "d", "e", "f", "g", "abc", "A"))
        if word == "put":
            return f"put {name} " + chance.choice([net_text(net) for net in NETS] + ["houses 0", ""])
        if word == "play":
            text = chance.choice(("none", "in 0 1", "in 0 2; in 1 0; in 2 1", "in 0 1; out 0", "in 0 1; in 1 0", "in", ""))
            return f"play {name} {text}"
        if word == "new":
            return chance.choice(("new", "undo", "new ", "undo", "redo"))
        rest = [name if form == NAME else str(chance.randint(0, 4)) for form in LINES[word]]
        return " ".join([word] + rest)

    def test_long_runs(self):
        met = set()
        for seed in range(60):
            chance = random.Random(seed)
            shell, plain = Shell(), Plain()
            for _ in range(120):
                line = self.line(chance)
                answer = shell.say(line)
                self.assertEqual(answer, plain.say(line), line)
                met.add(answer if answer.startswith("error") else answer.split(" ")[0])
            self.assertEqual([shell.say("names"), shell.say("judged")], [plain.say("names"), plain.say("judged")])
        self.assertLessEqual({
            "error Taken", "error NoNet", "error Unfit", "error BadText", "error NothingToRedo", "error NothingToUndo",
            "error TooMany", "version", "what", "stuck", "free", "any", "none", "empty", "going", "refused",
        }, met)

    def test_two_shells_go_their_own_way(self):
        one, other = Shell(), Shell()
        self.assertEqual(told(one, put("a", PAIR), "free a"), ["version 1", "free"])
        self.assertEqual(told(other, "names", "judged", put("b", WHEEL), "free b"), ["none", "0", "version 1", "stuck"])
        self.assertEqual(told(one, "names", "judged"), ["a", "1"])

    def test_the_argument_by_name(self):
        self.assertEqual(Shell().say(line="names"), "none")

    def test_great_nets_take_little_time(self):
        for net in (SIX, SIXTEEN, TANGLE, HALL, ALONE, UNTOLD) + tuple(great_nets(213, 4)):
            shell = Shell()
            for line in (put("a", net), "free a", "most a", "lot a", "show a", "play a none", "drop a"):
                self.assertNotEqual(in_time(shell.say, line)[1].split(" ")[0], "what")


if __name__ == "__main__":
    unittest.main()
