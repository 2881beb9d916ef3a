"""[11.1] over [0.2] (h) and [0.4]: rows written out, and read in again."""

import copy
import re
import time
import unittest

from sidedeeds.deeds import is_row
from sidedeeds.errors import NoText, SideError
from sidedeeds.texts import read_in, written_out
from things import CELLS, dice_of, renamed_at_random, some_light_row, some_row

# From the blank to ~ but for the sign for parts in a hundred, and the line feed.
SIGNS = "".join(chr(code) for code in range(32, 127) if code != 37) + "\n"
FORM = re.compile(r"(0|-?[1-9][0-9]?)((?:[+-][2-9]?[a-h])*)")
LINE = re.compile(r"([a-z]{1,4}) [1-9]: (.*)")
ROW = (
    ("set", 1, (("a", (5, ())), ("b", (-99, (("a", 1), ("b", -1), ("h", 9)))))),
    ("x", 9, (("h", (0, (("c", -9), ("d", 2)))),)),
)
TEXT = "set 1: a=5, b=-99+a-b+9h\nx 9: h=0-9c+2d\n"


def rising(cells):
    return all(one < other for one, other in zip(cells, cells[1:]))


def is_forms_text(text):
    found = FORM.fullmatch(text)
    return found is not None and rising(re.findall("[a-h]", found[2]))


def is_deeds_text(line):
    found = LINE.fullmatch(line)
    if found is None:
        return False
    parts = found[2].split(", ")
    if len(parts) > 4 or any(part[1:2] != "=" or part[0] not in CELLS for part in parts):
        return False
    return rising([part[0] for part in parts]) and all(is_forms_text(part[2:]) for part in parts)


def is_rows_text(text):
    """Whether the text is a row's, by its signs alone."""
    lines = text.split("\n")
    if lines.pop() != "" or len(lines) > 10 or not all(is_deeds_text(line) for line in lines):
        return False
    names = [line.split(" ")[0] for line in lines]
    return len(set(names)) == len(names)


class WrittenOut(unittest.TestCase):
    def form(self, number, *terms):
        """The text of a form."""
        told = written_out((("x", 1, (("a", (number, terms)),)),))
        self.assertEqual((told[:7], told[-1]), ("x 1: a=", "\n"))
        return told[7:-1]

    def test_a_row(self):
        self.assertEqual(written_out(ROW), TEXT)

    def test_no_deeds(self):
        self.assertEqual(written_out(()), "")

    def test_numbers(self):
        self.assertEqual([self.form(number) for number in (0, 1, 9, 10, 99)], ["0", "1", "9", "10", "99"])
        self.assertEqual([self.form(number) for number in (-1, -9, -10, -99)], ["-1", "-9", "-10", "-99"])

    def test_times(self):
        self.assertEqual(self.form(0, ("a", 1)), "0+a")
        self.assertEqual(self.form(0, ("a", -1)), "0-a")
        self.assertEqual(self.form(0, ("a", 2)), "0+2a")
        self.assertEqual(self.form(0, ("a", -2)), "0-2a")
        self.assertEqual(self.form(0, ("a", 9)), "0+9a")
        self.assertEqual(self.form(0, ("a", -9)), "0-9a")

    def test_numbers_below_0_with_terms(self):
        self.assertEqual(self.form(-7, ("a", -1), ("c", 1), ("h", -3)), "-7-a+c-3h")

    def test_several_parts(self):
        row = (("abcd", 7, tuple((cell, (1, ())) for cell in "aceh")),)
        self.assertEqual(written_out(row), "abcd 7: a=1, c=1, e=1, h=1\n")


class ReadIn(unittest.TestCase):
    def refused(self, *texts):
        for text in texts:
            with self.subTest(text=text):
                with self.assertRaises(NoText) as caught:
                    read_in(text)
                self.assertIsInstance(caught.exception, SideError)

    def forms(self, *forms):
        self.refused(*[f"x 1: a={form}\n" for form in forms])

    def test_what_was_written(self):
        self.assertEqual(read_in(TEXT), ROW)

    def test_no_deeds(self):
        self.assertEqual(read_in(""), ())

    def test_the_greatest_and_the_least(self):
        self.assertEqual(read_in("a 1: a=0\n"), (("a", 1, (("a", (0, ())),)),))
        form = (-99, tuple((cell, -9) for cell in CELLS))
        text = "zzzz 9: e=F, f=F, g=F, h=F\n".replace("F", "-99-9a-9b-9c-9d-9e-9f-9g-9h")
        self.assertEqual(read_in(text), (("zzzz", 9, tuple((cell, form) for cell in "efgh")),))

    def test_blanks(self):
        self.refused(" x 1: a=5\n", "x  1: a=5\n", "x1: a=5\n", "x 1 : a=5\n", "x 1:a=5\n", "x 1:  a=5\n",
                     "x 1: a =5\n", "x 1: a= 5\n", "x 1: a=5 \n", "x 1: a=5+ b\n", "x 1: a=5 +b\n", "x 1: a=5+2 b\n",
                     "x 1: a=- 5\n", "x 1: a=5,b=6\n", "x 1: a=5 , b=6\n", "x 1: a=5,  b=6\n", "x 1: a=5, b=6, \n",
                     " ", " \n")

    def test_line_feeds(self):
        self.refused("x 1: a=5", "x 1: a=5\n\n", "\nx 1: a=5\n", "\n", "\n\n", "x 1: a=5\n\ny 1: b=5\n", "x 1: a=5\n ",
                     "x 1: a=5\ny 1: b=5", "x 1: a=5y 1: b=5\n", "x\n1: a=5\n", "x 1:\na=5\n", "x 1: a=5,\nb=5\n")

    def test_figures(self):
        self.forms("05", "00", "-05", "+5", "-0", "+0", "", "-", "+", "--5", "5-", "5+", "5+a+", "0+02a", "0+0a",
                   "0-0a", "0+1a", "0-1a", "0+10a", "0-10a", "0+2", "0+2+3a", "0+-a", "0-+a", "0++a", "0+aa", "0+a2",
                   "0a", "5a", "a", "+a", "-a", "2a", "0*a", "0+2*a", "5.0", "1e1", "0x5", "5_0", "0+2ab", "0+A", "0+i",
                   "0+`")

    def test_numbers_beside_their_bounds(self):
        self.forms("100", "-100", "999", "1000", "0+99a")
        self.assertEqual(read_in("x 1: a=99\n")[0][2][0][1], (99, ()))
        self.assertEqual(read_in("x 1: a=-99\n")[0][2][0][1], (-99, ()))

    def test_very_long_figures(self):
        for long in ("9" * 5000, "-" + "9" * 5000, "0" * 5000, "0+" + "9" * 5000 + "a"):
            self.forms(long)
        self.refused(f"x {'1' * 5000}: a=5\n", f"{'x' * 5000} 1: a=5\n")

    def test_ticks_beside_their_bounds(self):
        self.refused("x 0: a=5\n", "x 10: a=5\n", "x -1: a=5\n", "x 01: a=5\n", "x +1: a=5\n", "x : a=5\n", "x: a=5\n",
                     "x 1 1: a=5\n", "x a: a=5\n")

    def test_cells_not_rising_or_said_twice(self):
        self.forms("0+b+a", "0+a+a", "0+a-a", "0+a+c+b", "0+2a+3a")
        self.refused("x 1: b=5, a=5\n", "x 1: a=5, a=5\n", "x 1: a=5, c=5, b=5\n")

    def test_cells_that_are_none(self):
        self.refused("x 1: i=5\n", "x 1: A=5\n", "x 1: =5\n", "x 1: ab=5\n", "x 1: 5\n", "x 1: a5\n", "x 1: a==5\n",
                     "x 1: a=5=5\n", "x 1: a=b=5\n")

    def test_names(self):
        self.refused("abcde 1: a=5\n", " 1: a=5\n", "1: a=5\n", "X 1: a=5\n", "x1 1: a=5\n", "a-b 1: a=5\n",
                     "x: 1: a=5\n", "x y 1: a=5\n", "x, 1: a=5\n")

    def test_names_that_are_alike(self):
        self.refused("x 1: a=5\nx 1: a=5\n", "x 1: a=5\ny 1: b=5\nx 2: c=5\n")

    def test_eleven_deeds(self):
        lines = [f"x{name} 1: a=5\n" for name in "abcdefghijk"]
        self.assertEqual(len(read_in("".join(lines[:10]))), 10)
        self.refused("".join(lines))

    def test_five_parts_and_no_part(self):
        self.assertEqual(len(read_in("x 1: a=5, b=5, c=5, d=5\n")[0][2]), 4)
        self.refused("x 1: a=5, b=5, c=5, d=5, e=5\n", "x 1: \n", "x 1:\n", "x 1\n", "x 1: , \n", "x 1: a=5, \n",
                     "x 1: , a=5\n", "x\n", "x \n", ": \n", ": a=5\n")

    def test_other_texts(self):
        self.refused("a", ":", "=", ", ", "hello", "x 1: a=5\n" + SIGNS, SIGNS, "~" * 1000, "x 1: a=5\ntail")

    def test_long_texts_in_little_time(self):
        begun = time.perf_counter()
        self.refused("x 1: a=5\n" * 20000, "x 1: a=0" + "+a" * 100000 + "\n", "\n" * 100000, "-" * 100000 + "\n",
                     "x 1: a=" + "5" * 300000 + "\n", "x 1: a=0+" + "a" * 300000 + "\n", "x" * 300000)
        self.assertLess(time.perf_counter() - begun, 10)


class AgainstTheWords(unittest.TestCase):
    def rows(self, seed, many):
        dice = dice_of(seed)
        for _ in range(many):
            yield renamed_at_random(dice, some_row(dice, dice.randrange(11)))
            yield renamed_at_random(dice, some_light_row(dice, dice.randrange(11)))

    def judge(self, text):
        """The text is read in just if it is a row's, and then as the row whose text it is."""
        if is_rows_text(text):
            row = read_in(text)
            self.assertIs(is_row(row), True, text)
            self.assertEqual(written_out(row), text)
            return 1
        with self.assertRaises(NoText, msg=text):
            read_in(text)
        return 0

    def test_a_row_and_its_text_tell_one_another(self):
        texts = {}
        for row in self.rows(101, 100):
            before = copy.deepcopy(row)
            text = written_out(row)
            for _ in range(2):
                self.assertEqual(written_out(row), text)
                self.assertEqual(read_in(text), row)
            self.assertEqual(row, before)
            self.assertIs(is_rows_text(text), True)
            self.assertEqual(texts.setdefault(text, row), row)

    def test_texts_a_sign_away(self):
        rows = 0
        for text in (TEXT, "a 5: a=1, b=-2-c\nb 1: a=0+a\n", ""):
            for at in range(len(text) + 1):
                rows += self.judge(text[:at] + text[at + 1:])
                for sign in SIGNS:
                    rows += self.judge(text[:at] + sign + text[at:])
                    rows += self.judge(text[:at] + sign + text[at + 1:])
        self.assertGreater(rows, 100)

    def test_texts_some_signs_away(self):
        dice = dice_of(102)
        rows = 0
        for row in self.rows(103, 60):
            for _ in range(20):
                signs = list(written_out(row[:3]))
                for _ in range(dice.randint(1, 3)):
                    at = dice.randrange(len(signs) + 1)
                    new = dice.choice(("", "0", "1", "a", "b", "+", "-", " ", ", ", "\n", "="))
                    signs[at:at + dice.randrange(2)] = new
                rows += self.judge("".join(signs))
        self.assertGreater(rows, 50)

    def test_lines_moved(self):
        dice = dice_of(104)
        for row in self.rows(105, 30):
            lines = [written_out((each,)) for each in row]
            dice.shuffle(lines)
            self.assertEqual(self.judge("".join(lines)), 1)
            self.assertEqual(self.judge("".join(lines + lines[:1])), 0 if lines else 1)


if __name__ == "__main__":
    unittest.main()
