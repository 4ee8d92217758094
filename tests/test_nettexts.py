"""A8, and A9 where it speaks of texts."""

import itertools
import unittest

from roomahead.errors import BadText
from roomahead.nettexts import net_text, read_net
from tests.helper import (
    ALONE, BARE, BLIND, FORK, HALL, NETS, PAIR, SIX, SIXTEEN, TWO, UNTOLD, WHEEL, WRONG_VALUES, asked, fields,
    plain_read_net, random_nets, result, spoiled,
)

ALL_NETS = NETS + tuple(random_nets(5, 150))
TWO_TEXT = "houses 2\nlane 0 1 2\nlane 0 1 1\nlane 1 0 1\nway 0 1: 0 1\nway 1 0: 2"


class Writing(unittest.TestCase):

    def test_lines(self):
        self.assertEqual(result(net_text, TWO), TWO_TEXT)
        self.assertEqual(result(net_text, ALONE), "houses 1")
        self.assertEqual(result(net_text, BARE), "houses 2")
        self.assertEqual(result(net_text, UNTOLD), "houses 3\nlane 0 1 2\nlane 1 2 4")
        self.assertEqual(
            result(net_text, BLIND),
            "houses 3\nlane 0 1 2\nlane 1 2 1\nway 0 1: 0\nway 0 2: 0\nway 1 0: 1\nway 1 2: 1",
        )

    def test_numbers_of_two_figures(self):
        lines = result(net_text, SIXTEEN).split("\n")
        self.assertEqual(lines[-2:], ["way 0 1: 0 1 2 3 4 5 6 7 8 9", "way 1 0: 10 11 12 13 14 15"])

    def test_a_line_for_each_lane_and_entry(self):
        for net in ALL_NETS:
            lines = result(net_text, net).split("\n")
            self.assertEqual(lines[0], f"houses {net[0]}")
            many = len(net[1])
            for line, lane in zip(lines[1:many + 1], net[1]):
                self.assertEqual(line, "lane " + " ".join(map(str, lane)))
            spots = [(u, d) for u, d in itertools.product(range(net[0]), repeat=2) if net[2][u][d]]
            self.assertEqual(len(lines), 1 + many + len(spots))
            for line, (u, d) in zip(lines[many + 1:], spots):
                self.assertEqual(line, f"way {u} {d}: " + " ".join(map(str, net[2][u][d])))


class Reading(unittest.TestCase):

    def check(self, value):
        """Read value, and compare with what the patterns of the helper tell."""
        net = plain_read_net(value)
        told = asked(read_net, value)
        wanted = ("raised", BadText, {}) if net is None else ("returned", net)
        self.assertEqual(repr(told), repr(wanted), value)
        return net

    def check_bad(self, value):
        self.assertEqual(fields(BadText, read_net, value), {}, value)

    def test_there_and_back(self):
        for net in ALL_NETS:
            self.assertEqual(repr(result(read_net, net_text(net))), repr(net))

    def test_unlike_nets_have_unlike_texts(self):
        told = {}
        for net in ALL_NETS:
            self.assertEqual(told.setdefault(net_text(net), net), net)
        self.assertGreater(len(told), 100)

    def test_texts_that_are_near_to_one(self):
        good = 0
        for net in (ALONE, BARE, PAIR, TWO, UNTOLD, WHEEL, FORK):
            text = net_text(net)
            for value in spoiled(text, " \n:-+0123x"):
                good += self.check(value) is not None
                if value.count("\n") > text.count("\n") + 1:
                    self.check_bad(value)
        self.assertGreater(good, 100)

    def test_great_texts_that_are_near_to_one(self):
        for net in (SIX, SIXTEEN):
            for place, value in enumerate(spoiled(net_text(net), " \n:01")):
                if place % 7 == 0:
                    self.check(value)

    def test_a_sign_left_out_put_in_or_doubled(self):
        for sign in " :\n":
            for at in range(len(TWO_TEXT)):
                if TWO_TEXT[at] == sign:
                    self.check_bad(TWO_TEXT[:at] + TWO_TEXT[at + 1:])
                    self.check_bad(TWO_TEXT[:at] + sign + TWO_TEXT[at:])
        for at in range(len(TWO_TEXT) + 1):
            for sign in "\n:-+_.xX\t\r":
                self.check_bad(TWO_TEXT[:at] + sign + TWO_TEXT[at:])

    def test_lines_left_out_twice_or_in_another_order(self):
        lines = TWO_TEXT.split("\n")
        for order in itertools.permutations(range(6)):
            # The first two lanes may change places: that is the text of another net.
            text = "\n".join(lines[i] for i in order)
            if order in ((0, 1, 2, 3, 4, 5), (0, 2, 1, 3, 4, 5)):
                self.assertEqual(net_text(read_net(text)), text)
            else:
                self.check(text)
                if order[0] != 0 or order[4:] != (4, 5):
                    self.check_bad(text)
        for i in range(6):
            self.check("\n".join(lines[:i] + lines[i + 1:]))
            if i not in (4, 5):
                self.check_bad("\n".join(lines[:i] + lines[i + 1:]))
            if i not in (1, 2, 3):
                self.check_bad("\n".join(lines[:i] + [lines[i]] + lines[i:]))
                self.check_bad("\n".join(lines + [lines[i]]))
        self.check_bad("\n".join(lines + [lines[1]]))
        self.check_bad("\n".join(lines[1:]))
        self.check_bad("\n".join(lines[:1] + lines))
        self.check_bad("\n".join(lines + ["way 1 0: 2"]))
        self.check_bad("\n".join(lines[:4] + ["way 0 1: 0"] + lines[4:]))

    def test_noughts_ahead_of_other_figures(self):
        for at in range(1, len(TWO_TEXT)):
            if TWO_TEXT[at].isdigit():
                self.check_bad(TWO_TEXT[:at] + "0" + TWO_TEXT[at:])
                self.check_bad(TWO_TEXT[:at] + "00" + TWO_TEXT[at:])

    def test_numbers_that_are_not_written_so(self):
        for number in ("-0", "+1", "1.0", "0x1", "1_0", "one", "\u0661", "\u00b9", "\u0967", " 1", "", "True"):
            self.check_bad(f"houses {number}")
            self.check_bad(f"houses 2\nlane 0 {number} 1")
            self.check_bad(f"houses 2\nlane 0 1 1\nway 0 {number}: 0")
            self.check_bad(f"houses 2\nlane 0 1 1\nway 0 1: {number}")

    def test_numbers_of_five_thousand_figures(self):
        for long in ("1" * 5000, "0" * 5000, "9" * 5000):
            self.check_bad(f"houses {long}")
            for place in range(3):
                lane = ["0", "1", "1"]
                lane[place] = long
                self.check_bad("houses 2\nlane " + " ".join(lane))
            self.check_bad(f"houses 2\nlane 0 1 1\nway {long} 1: 0")
            self.check_bad(f"houses 2\nlane 0 1 1\nway 0 {long}: 0")
            self.check_bad(f"houses 2\nlane 0 1 1\nway 0 1: 0 {long}")

    def test_houses_and_lanes_that_there_are_not(self):
        for houses in ("0", "7", "8", "10", "16", "17", "99"):
            self.check_bad(f"houses {houses}")
        for lane in ("0 2 1", "2 0 1", "0 0 1", "1 1 1", "0 1 0", "0 1 5", "0 1", "0 1 1 1", ""):
            self.check_bad(f"houses 2\nlane {lane}")
        for way in ("0 1: 1", "0 1: 0 1", "0 2: 0", "2 0: 0", "0 0: 0", "1 0: 0", "1 1: 0", "0: 0", "0 1 1: 0", ": 0"):
            self.check_bad(f"houses 2\nlane 0 1 1\nway {way}")

    def test_an_entry_out_of_order_or_without_lanes(self):
        for entry in (" 1 0", " 0 0", " 0 1 1", " 1 0 1", " 2", " 0 2", "", " ", " 0 ", "0", "  0", " 0  1", " 0,1"):
            self.check_bad(f"houses 2\nlane 0 1 2\nlane 0 1 1\nlane 1 0 1\nway 0 1:{entry}")

    def test_no_more_than_sixteen_lanes(self):
        for many in range(15, 20):
            text = "\n".join(["houses 2"] + ["lane 0 1 1"] * many)
            if many <= 16:
                self.assertEqual(result(read_net, text), (2, ((0, 1, 1),) * many, (((), ()), ((), ()))))
            else:
                self.check_bad(text)
        self.check_bad("\n".join(["houses 2"] + ["lane 0 1 1"] * 1800))

    def test_blanks_and_line_feeds_at_the_ends(self):
        for net in (ALONE, PAIR, HALL, SIX):
            text = net_text(net)
            for end in (" ", "\n", "  ", "\n\n", "\r", "\t", ":", "\0"):
                self.check_bad(text + end)
                self.check_bad(end + text)

    def test_other_words(self):
        for text in ("", "house 1", "Houses 1", "houses", "houses 1 1", "houses: 1", "houses 1:", "none", "\n", " "):
            self.check_bad(text)
        for line in ("lanes 0 1 1", "Lane 0 1 1", "lane: 0 1 1", "lane 0 1: 1", "lane", "way", "", "houses 2"):
            self.check_bad(f"houses 2\n{line}")
        for line in ("ways 0 1: 0", "way 0 1 0", "way 0: 1 0", "way: 0 1 0", "way 0 1:: 0", "way 0 1 : 0", "way 0 1; 0"):
            self.check_bad(f"houses 2\nlane 0 1 1\n{line}")

    def test_what_is_no_string(self):
        for value in WRONG_VALUES + (WHEEL, ["houses 1"], ("houses 1",), {"houses 1": 1}, [net_text(WHEEL)]):
            self.check_bad(value)

    def test_long_strings(self):
        for sign in " :\n0ah":
            self.check_bad(sign * 20000)
        self.check_bad("houses 1" + "\nlane" * 3900)
        self.check_bad("houses 6" + "\nway 0 1: 0" * 1800)


if __name__ == "__main__":
    unittest.main()
