"""B6, and B7 where it speaks of texts."""

import random
import unittest

from roomahead.deedtexts import deeds_text, read_deeds
from roomahead.errors import BadText
from tests.helper import WRONG_VALUES, asked, fields, plain_read_deeds, result, spoiled

ALL_DEEDS = tuple(
    [("in", lane, aim) for lane in range(16) for aim in range(6)]
    + [("on", lane, other) for lane in range(16) for other in range(16)]
    + [("out", lane) for lane in range(16)]
)


def some_rows(seed):
    chance = random.Random(seed)
    return [()] + [(deed,) for deed in ALL_DEEDS] + [tuple(chance.choices(ALL_DEEDS, k=many)) for many in range(2, 40)]


class Writing(unittest.TestCase):

    def test_by_hand(self):
        self.assertEqual(result(deeds_text, ()), "none")
        self.assertEqual(result(deeds_text, (("out", 10),)), "out 10")
        self.assertEqual(result(deeds_text, (("on", 15, 0), ("in", 0, 5))), "on 15 0; in 0 5")

    def test_unlike_rows_have_unlike_texts(self):
        rows = some_rows(22)
        self.assertEqual(len({deeds_text(row) for row in rows}), len(set(rows)))

    def test_many_deeds(self):
        for many in (399, 400, 401, 420):
            self.assertEqual(result(deeds_text, (("out", 3),) * many), "; ".join(["out 3"] * many))


class Reading(unittest.TestCase):

    def check_bad(self, value):
        self.assertEqual(fields(BadText, read_deeds, value), {}, value)

    def test_there_and_back(self):
        for row in some_rows(23):
            self.assertEqual(repr(result(read_deeds, deeds_text(row))), repr(row))

    def test_four_hundred_deeds_at_most(self):
        chance = random.Random(24)
        row = tuple(chance.choices(ALL_DEEDS, k=400))
        self.assertEqual(result(read_deeds, deeds_text(row)), row)
        self.assertEqual(result(read_deeds, deeds_text(row[1:])), row[1:])
        for many in (401, 402, 2000):
            self.check_bad("; ".join(["out 3"] * many))
        self.check_bad(deeds_text(row + (("in", 0, 0),)))

    def test_texts_that_are_near_to_one(self):
        good = 0
        for text in ("none", "out 2", "in 0 1", "on 15 10", "in 0 1; on 0 2; out 2", "out 0; out 11; in 10 5"):
            for value in spoiled(text, " ;-+0156\nin"):
                row = plain_read_deeds(value)
                wanted = ("raised", BadText, {}) if row is None else ("returned", row)
                self.assertEqual(repr(asked(read_deeds, value)), repr(wanted), value)
                good += row is not None
        self.assertGreater(good, 100)

    def test_a_sign_left_out_or_doubled(self):
        text = "in 0 1; on 0 2; out 2"
        for at, sign in enumerate(text):
            self.check_bad(text[:at] + text[at + 1:])
            self.check_bad(text[:at] + sign + text[at:])

    def test_lanes_and_aims_beyond(self):
        for text in ("in 0 6", "in 16 0", "in 0 10", "on 16 0", "on 0 16", "out 16", "out 99", "out 100", "out -1"):
            self.check_bad(text)
            self.check_bad("out 1; " + text)
            self.check_bad(text + "; out 1")
        for text in ("in 15 5", "on 15 15", "out 15"):
            self.assertEqual(deeds_text(result(read_deeds, text)), text)

    def test_numbers_that_are_not_written_so(self):
        numbers = ["00", "01", "02", "015", "-0", "+1", "1.0", "0x1", "1_0", "one", "\u0661", "\u00b9", "", " 1", "True"]
        for number in numbers + ["1" * 5000, "0" * 5000, "9" * 4301]:
            for text in (f"in {number} 1", f"in 1 {number}", f"on {number} 1", f"on 1 {number}", f"out {number}"):
                self.check_bad(text)

    def test_too_many_items_and_too_few(self):
        for text in ("in", "on", "out", "in 0", "on 0", "in 0 1 1", "on 0 1 1", "out 0 0", "0 1", "1", "in in 0 1"):
            self.check_bad(text)

    def test_other_words(self):
        for text in ("", "None", "none ", " none", "none; none", "out 1; none", "none; out 1", "none 1", "put 0 1"):
            self.check_bad(text)
        for text in ("In 0 1", "IN 0 1", "outs 1", "ou 1", "on0 1", "in 0,1", "in\n0 1", "in  0 1", "in 0\t1"):
            self.check_bad(text)

    def test_between_two_and_at_the_ends(self):
        for between in (";", ";  ", " ; ", ";\n", "\n", ", ", " ", "; ; ", ";; ", ""):
            self.check_bad("out 1" + between + "out 2")
        for end in (" ", ";", "; ", "\n", "\r", "\t", ".", "\0"):
            for text in ("none", "out 1", "in 0 1; out 2"):
                self.check_bad(text + end)
                self.check_bad(end + text)

    def test_what_is_no_string(self):
        for value in WRONG_VALUES + ((("out", 1),), ["out 1"], ("none",), {"none": 1}, [], ()):
            if value != "none":
                self.check_bad(value)

    def test_long_strings(self):
        for sign in " ;0n":
            self.check_bad(sign * 20000)
        self.check_bad("; " * 10000)


if __name__ == "__main__":
    unittest.main()
