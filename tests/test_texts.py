"""Slants and rows of shares as texts [10.1], [10.2]."""

import itertools
import math
import unittest

from slanttables.errors import NoRow, NoSlants, NoText
from slanttables.texts import row_read, row_shown, slants_read, slants_shown
from tests.checks import Checks
from tests.things import EVEN, MANY_SLANTS, NO_SHARES, NO_SLANTS, OTHER_THINGS, SOME_SHARES, no_rows, rows_for

# Words that are no number, written as numbers are.
NO_NUMBER_WORDS = [
    "", "-", "--1", "+1", "+0", "-0", "00", "01", "-01", "007", "1.0", "1,0", "1_0", "0x1", "1e1", "one", "1-", "- 1", "1 ", " 1", "1\t",
    "1" * 21, "-" + "1" * 21, "0" * 20, "None", "True", "1/1", "1/2", "(1)", "1;", ".", "~", "'1'", "\u0661", "\u00b2",
]

# Numbers, but none that slants have.
FAR_WORDS = ["51", "-51", "100", "9" * 20, "-" + "9" * 20]

NO_SIZE_WORDS = ["0", "6", "-1", "10", "9" * 20, "-5"]

NO_TEXTS = [thing for thing in OTHER_THINGS if not isinstance(thing, str)] + [["size 1", "slant 0"], ("size 1\nslant 0",), b"1"]


class SlantsShown(Checks):
    def test_written_out(self):
        self.assertEqual(slants_shown((0,)), "size 1\nslant 0")
        self.assertEqual(slants_shown((1, -2, 50)), "size 2\nslant 1\nslant -2\nslant 50")

    def test_of_many(self):
        for slants in MANY_SLANTS + EVEN:
            told = slants_shown(slants)
            self.assertIs(type(told), str)
            words = [row.split(" ") for row in told.split("\n")]
            self.assertEqual(words[0], ["size", str(len(slants) // 2 + 1)])
            self.assertEqual(words[1:], [["slant", str(number)] for number in slants])

    def test_read_again(self):
        for slants in MANY_SLANTS + EVEN:
            told = slants_read(slants_shown(slants))
            self.assertIs(type(told), tuple)
            self.assertEqual(told, slants)

    def test_no_slants(self):
        for thing in NO_SLANTS:
            self.check_refused(NoSlants, slants_shown, thing)


class SlantsRead(Checks):
    def check_row(self, text, row):
        told = self.check_refused(NoText, slants_read, text).row
        self.assertEqual(told, row, text)
        self.assertIs(type(told), int)

    def test_written_out(self):
        self.assertEqual(slants_read("size 1\nslant 0"), (0,))
        self.assertEqual(slants_read("size 1\nslant -50"), (-50,))
        self.assertEqual(slants_read("size 2\nslant 1\nslant -2\nslant 50"), (1, -2, 50))
        self.assertEqual(slants_read("size 5" + "\nslant 7" * 9), (7,) * 9)

    def test_what_is_no_text(self):
        for thing in NO_TEXTS:
            self.check_row(thing, 0)

    def test_no_row_at_all(self):
        for text in ("", " ", "\n", "text", "1", "\n\n", "slant 0", "slant 0\nsize 1"):
            self.check_row(text, 1)

    def test_the_first_row(self):
        for word in NO_NUMBER_WORDS + NO_SIZE_WORDS + FAR_WORDS:
            self.check_row(f"size {word}\nslant 0", 1)
        for row in ("size", "size1", "size  1", " size 1", "size 1 ", "size 1 1", "Size 1", "SIZE 1", "sizes 1", "1 size", "1", "size\t1",
                    "slant 1", "size 1;", "size = 1", "\nsize 1", "size 1\r", "", "size -", "size 1 slant 0"):
            self.check_row(f"{row}\nslant 0", 1)
            self.check_row(row, 1)

    def test_each_other_row(self):
        for size in range(1, 6):
            for place in range(2 * size - 1):
                rows = [f"size {size}"] + ["slant 0"] * (2 * size - 1)
                wrong = [f"slant {word}" for word in NO_NUMBER_WORDS + FAR_WORDS]
                wrong += ["slant", "slant0", "slant  0", " slant 0", "slant 0 ", "slant 0 0", "Slant 0", "slants 0", "0 slant", "0", "size 1",
                          "", " ", "slant 0\r", "slant\t0", "slant -"]
                for row in wrong:
                    rows[1 + place] = row
                    self.check_row("\n".join(rows), 2 + place)
                    # Of two wrong rows, and of one that is wrong and one too few, the first is told.
                    self.check_row("\n".join(rows) + "\nslant x\nslant 0", 2 + place)
                    self.check_row("\n".join(rows[:2 + place]), 2 + place)

    def test_too_many_rows(self):
        for size in range(1, 6):
            text = f"size {size}" + "\nslant 0" * (2 * size - 1)
            for more in ("\nslant 0", "\n", "\nslant 0\nslant 0", "\n\n", "\nsize 1", "\n ", "\nslant 51", "\nx"):
                self.check_row(text + more, 2 * size + 1)

    def test_too_few_rows(self):
        for size in range(1, 6):
            for many in range(2 * size - 1):
                text = f"size {size}" + "\nslant 0" * many
                self.check_row(text, many + 2)
                # A line feed at the end is one row more, without words.
                self.check_row(text + "\n", many + 2)

    def test_blanks_and_line_feeds_at_either_end(self):
        text = "size 2\nslant 1\nslant 2\nslant 3"
        self.assertEqual(slants_read(text), (1, 2, 3))
        self.check_row("\n" + text, 1)
        self.check_row(" " + text, 1)
        self.check_row(text + "\n", 5)
        self.check_row(text + " ", 4)
        self.check_row(text.replace("\n", "\n\n", 1), 2)
        self.check_row(text.replace("\n", " \n", 1), 1)
        self.check_row(text.replace("\n", "\n ", 1), 2)
        self.check_row(text.replace("\n", " "), 1)
        self.check_row(text.replace("\n", "\r\n"), 1)
        self.check_row(text.replace("\n", " ; "), 1)

    def test_a_long_text(self):
        self.check_row("size 5" + "\nslant 0" * 200, 11)
        self.check_row("\n" * 2000, 1)


class RowShown(Checks):
    def test_written_out(self):
        self.assertEqual(row_shown(((1, 2),)), "1/2")
        self.assertEqual(row_shown(((0, 1), (-7, 1), (-2, 3), (22, 7))), "0 -7 -2/3 22/7")
        self.assertEqual(row_shown(((1, 1),) * 10), "1 1 1 1 1 1 1 1 1 1")
        self.assertEqual(row_shown(((10 ** 29 + 1, 10 ** 29),)), f"{10 ** 29 + 1}/{10 ** 29}")

    def test_of_many(self):
        for many in range(1, 11):
            for row in rows_for(many):
                told = row_shown(row)
                self.assertIs(type(told), str)
                for word, (top, bottom) in zip(told.split(" "), row, strict=True):
                    self.assertEqual(word, str(top) if bottom == 1 else "/".join([str(top), str(bottom)]))

    def test_no_row(self):
        for size in range(1, 11):
            for thing in no_rows(min(size, 8)) + [rows_for(size)[0] + (None,), list(rows_for(size)[0])]:
                if isinstance(thing, tuple) and 0 < len(thing) < 11 and all(self.is_share(part) for part in thing):
                    continue
                self.check_refused(NoRow, row_shown, thing)

    def is_share(self, thing):
        return (isinstance(thing, tuple) and [type(part) for part in thing] == [int, int] and thing[1] > 0
                and math.gcd(thing[0], thing[1]) == 1)

    def test_none_and_more_than_ten(self):
        for many in (0, 11, 12, 500):
            self.check_refused(NoRow, row_shown, ((1, 2),) * many)


class RowRead(Checks):
    def check_row(self, text, row):
        told = self.check_refused(NoText, row_read, text).row
        self.assertEqual(told, row, text)
        self.assertIs(type(told), int)

    def test_written_out(self):
        self.assertEqual(row_read("1/2"), ((1, 2),))
        self.assertEqual(row_read("0 -7 -2/3 22/7"), ((0, 1), (-7, 1), (-2, 3), (22, 7)))
        self.assertEqual(row_read("1 1 1 1 1 1 1 1 1 1"), ((1, 1),) * 10)
        self.assertEqual(row_read("9" * 20), ((10 ** 20 - 1, 1),))
        self.assertEqual(row_read("-" + "9" * 20 + "/1" + "0" * 19), ((1 - 10 ** 20, 10 ** 19),))

    def test_read_again(self):
        short = [share for share in SOME_SHARES if max(share) < 10 ** 20]
        for many in range(1, 11):
            for start in range(len(short)):
                row = tuple(short[(start + at) % len(short)] for at in range(many))
                told = row_read(row_shown(row))
                self.assertIs(type(told), tuple)
                self.assertEqual(told, row)

    def test_small_shares(self):
        for top, bottom in itertools.product(range(-12, 13), range(-1, 13)):
            text = f"{top}/{bottom}"
            if bottom > 1 and math.gcd(top, bottom) == 1:
                self.assertEqual(row_read(text), ((top, bottom),))
            else:
                self.check_row(text, 1)

    def test_what_is_no_text(self):
        for thing in NO_TEXTS + NO_SHARES + [((1, 2),), ["1/2"], ("1/2",)]:
            if not isinstance(thing, str):
                self.check_row(thing, 0)

    def test_words_that_are_no_shares(self):
        words = [word for word in NO_NUMBER_WORDS if word != "1/2"]
        words += ["1/", "/2", "/", "1//2", "1/2/3", "1/-2", "-1/-2", "1/+2", "+1/2", "1/02", "01/2", "1/0", "0/1", "0/2", "-0/2", "2/4", "3/3",
                  "-2/4", "1/1", "5/1", "-5/1", "0/0", "1 /2", "1/ 2", "1 / 2", "1:2", "1\\2", "1/2.", "1/x", "x/2", "--1/2", "-/2", "1/2\n",
                  "\n1/2", "1/" + "3" * 21, "1" * 21 + "/2", "6" + "0" * 18 + "/4" + "0" * 18, "1/2-", "(1, 2)"]
        for word in words:
            self.check_row(word, 1)
            self.check_row(f"{word} 1/2", 1)
            self.check_row(f"1/2 {word}", 1)
            self.check_row(f"1 {word} 2/3", 1)

    def test_blanks_and_line_feeds(self):
        for text in ("", " ", "\n", " 1", "1 ", "1  2", "1\n2", "1\n", "\n1", "1 \n2", "1\t2", "1 2 ", "1;2", "1,2"):
            self.check_row(text, 1)

    def test_more_than_ten(self):
        for many in (11, 12, 500):
            self.check_row(" ".join(["1"] * many), 1)

    def test_figures(self):
        self.assertEqual(row_read("1" + "0" * 19), ((10 ** 19, 1),))
        self.assertEqual(row_read("1/1" + "0" * 19), ((1, 10 ** 19),))
        for text in ("1" + "0" * 20, "-1" + "0" * 20, "1/1" + "0" * 20, "1" * 1000):
            self.check_row(text, 1)


if __name__ == "__main__":
    unittest.main()
