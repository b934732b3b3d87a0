import itertools
import re
import unittest

from tests.things import odd_but
from totalround.errors import NoRecord
from totalround.records import cut, fits, is_record, laid
from totalround.shapes import Shape

BLANK = " " * 60
# Text in columns 2 to 6, a number in 8 to 12, the mark in 1.
ITEM = Shape("item", (1, "i"), (("word", 2, 5, "text"), ("qty", 8, 5, "number")))
# The order of the fields is not that of their columns.
PAIR = Shape("pair", None, (("b", 6, 4, "number"), ("a", 1, 4, "number")))


def wide(signs):
    return signs.ljust(60)


def number(length):
    return Shape("s", None, (("n", 3, length, "number"),))


def numbered(signs):
    return wide("  " + signs)


class RecordCase(unittest.TestCase):
    def refused(self, name, asked, *things):
        with self.subTest(things=repr(things)), self.assertRaises(NoRecord) as caught:
            asked(*things)
        self.assertIs(type(caught.exception), NoRecord)
        self.assertEqual(caught.exception.name, name)


class Records(unittest.TestCase):
    def test_sixty_signs(self):
        self.assertIs(is_record(BLANK), True)
        self.assertIs(is_record("~" * 60), True)
        for many in (0, 1, 59, 61, 120):
            self.assertIs(is_record("a" * many), False, many)

    def test_each_sign(self):
        for code in range(256):
            self.assertIs(is_record("a" * 59 + chr(code)), 32 <= code <= 126, code)
            self.assertIs(is_record(chr(code) + "a" * 59), 32 <= code <= 126, code)
        for sign in ("\u0660", "\u3000", "\ud800", "\U0001f600"):
            self.assertIs(is_record(sign + "a" * 59), False)

    def test_other_things(self):
        for thing in odd_but(str) + [["a"] * 60, ("a",) * 60, dict.fromkeys(range(60))]:
            self.assertIs(is_record(thing), False)


class Fitting(unittest.TestCase):
    def test_without_a_mark_each_record_fits(self):
        for record in (BLANK, "x" * 60):
            self.assertIs(fits(PAIR, record), True)

    def test_the_marks_sign_stands_in_its_column(self):
        for column in (1, 2, 30, 59, 60):
            shape = Shape("s", (column, "x"), ())
            self.assertIs(fits(shape, "a" * (column - 1) + "x" + "a" * (60 - column)), True)
            self.assertIs(fits(shape, "x" * (column - 1) + "a" + "x" * (60 - column)), False)

    def test_a_blank_is_a_sign(self):
        shape = Shape("s", (60, " "), ())
        self.assertIs(fits(shape, BLANK), True)
        self.assertIs(fits(shape, "a" * 60), False)

    def test_what_is_no_record(self):
        for shape in (ITEM, PAIR, Shape("s", (1, "a"), ())):
            for thing in odd_but() + ["i" * 59, "i" * 61, "i" * 59 + "\n", ["i"] * 60, b"i" * 60]:
                self.assertIs(fits(shape, thing), False)


class Cutting(RecordCase):
    def test_worths_in_the_order_of_the_fields(self):
        worths = cut(ITEM, wide("iab c     12"))
        self.assertEqual(list(worths.items()), [("word", "ab c "), ("qty", 12)])
        self.assertEqual(list(cut(PAIR, wide("   1    2")).items()), [("b", 2), ("a", 1)])

    def test_no_fields(self):
        self.assertEqual(cut(Shape("s", None, ()), BLANK), {})

    def test_a_text_is_worth_all_its_signs(self):
        shape = Shape("s", (1, "x"), (("a", 41, 20, "text"), ("b", 2, 1, "text")))
        signs = "x" + "".join(chr(33 + k) for k in range(59))
        self.assertEqual(cut(shape, signs), {"a": signs[40:], "b": signs[1]})
        self.assertEqual(cut(shape, wide("x")), {"a": " " * 20, "b": " "})

    def test_all_short_number_fields(self):
        for length in range(1, 6):
            for signs in itertools.product("019 -+_x", repeat=length):
                self.check_number("".join(signs))

    def test_other_number_fields(self):
        for signs in ("123456789", "-99999999", "000000000", "-00000000", "       -0", "        -", "- 1      ",
                      "1       2", "12       ", "  --1", "  1-", " 0x10", "  1.0", "  1e3", "  1,0", "000000001", "-00000007"):
            self.check_number(signs)

    def check_number(self, signs):
        shape = number(len(signs))
        if re.fullmatch(" *-?[0-9]+", signs):
            worth = cut(shape, numbered(signs))["n"]
            self.assertEqual(worth, int(signs), repr(signs))
            self.assertIs(type(worth), int)
        elif signs.strip(" ") == "":
            self.assertEqual(cut(shape, numbered(signs)), {"n": 0})
        else:
            self.refused("n", cut, shape, numbered(signs))

    def test_some_worths_written_out(self):
        for signs, worth in (("   ", 0), ("  7", 7), ("007", 7), (" -7", -7), ("-07", -7), (" -0", 0), ("999", 999)):
            self.assertEqual(cut(number(3), numbered(signs)), {"n": worth})

    def test_nothing_but_the_fields_own_columns_counts(self):
        self.assertEqual(cut(number(2), wide("xx12xx")), {"n": 12})
        self.assertEqual(cut(number(2), wide("- 1234")), {"n": 12})
        last = Shape("s", None, (("n", 60, 1, "number"),))
        self.assertEqual(cut(last, "x" * 59 + "8"), {"n": 8})

    def test_the_first_field_that_is_none(self):
        self.refused("b", cut, PAIR, wide("  x   x"))
        self.refused("b", cut, PAIR, wide("   1  x"))
        self.refused("a", cut, PAIR, wide("  x     2"))
        self.refused("qty", cut, ITEM, wide("iab c      x"))

    def test_what_is_no_record_or_does_not_fit(self):
        self.refused("", cut, ITEM, wide("jab c     12"))
        self.refused("", cut, ITEM, wide("jab c      x"))
        for thing in odd_but() + ["i" * 59, "i" * 61, "i" * 59 + "\u00b2", "i" + "1" * 58 + "\n"]:
            self.refused("", cut, ITEM, thing)
            self.refused("", cut, PAIR, thing)

    def test_the_dict_is_the_askers_own(self):
        record = wide("iab c     12")
        cut(ITEM, record).clear()
        self.assertEqual(cut(ITEM, record), {"word": "ab c ", "qty": 12})


class Laying(RecordCase):
    def test_mark_texts_and_numbers(self):
        self.assertEqual(laid(ITEM, {"word": "ab", "qty": 12}), wide("iab       12"))
        self.assertEqual(laid(PAIR, {"a": 1, "b": -20}), wide("   1  -20"))
        self.assertEqual(laid(Shape("s", (60, "~"), ()), {}), " " * 59 + "~")
        self.assertEqual(laid(Shape("s", None, ()), {}), BLANK)

    def test_texts_shorter_and_as_long(self):
        for word in ("", " ", "a", " a", "a ", "abcd", "abcde", "     ", "~    ", "    ~"):
            self.assertEqual(laid(ITEM, {"word": word, "qty": 0}), "i" + word.ljust(5) + " " + "    0" + " " * 48)

    def test_texts_that_are_too_long(self):
        for word in ("abcdef", "abcde ", " " * 6, "a" * 100):
            self.refused("word", laid, ITEM, {"word": word, "qty": 0})

    def test_texts_of_other_signs(self):
        for word in ("\n", "a\x7f", "\x1fa", "\u00e9", "\ud800"):
            self.refused("word", laid, ITEM, {"word": word, "qty": 0})

    def test_numbers_as_long_as_may_be(self):
        for length in range(1, 10):
            most = 10 ** length - 1
            least = -(10 ** (length - 1) - 1)
            for worth in (most, least, 0, most // 2):
                record = laid(number(length), {"n": worth})
                self.assertEqual(record, numbered(str(worth).rjust(length)))
                self.assertEqual(cut(number(length), record), {"n": worth})

    def test_numbers_that_are_too_long(self):
        for length in range(1, 10):
            for worth in (10 ** length, -(10 ** (length - 1)), 10 ** 20, -(10 ** 20)):
                self.refused("n", laid, number(length), {"n": worth})

    def test_numbers_of_thousands_of_figures(self):
        for worth in (10 ** 5000, -(10 ** 5000)):
            with self.assertRaises(NoRecord) as caught:
                laid(number(9), {"n": worth})
            self.assertEqual(caught.exception.name, "n")

    def test_worths_of_another_kind(self):
        for thing in odd_but(str):
            self.refused("word", laid, ITEM, {"word": thing, "qty": 0})
        for thing in odd_but(int) + [True, False, "12", "0", ""]:
            self.refused("qty", laid, ITEM, {"word": "", "qty": thing})

    def test_worths_that_lack(self):
        self.refused("word", laid, ITEM, {"qty": 1})
        self.refused("qty", laid, ITEM, {"word": "a"})
        self.refused("word", laid, ITEM, {})

    def test_the_first_field_at_fault(self):
        self.refused("b", laid, PAIR, {})
        self.refused("b", laid, PAIR, {"a": "x", "b": "x"})
        self.refused("b", laid, PAIR, {"a": None, "b": 12345})
        self.refused("a", laid, PAIR, {"a": "x", "b": 1})
        self.refused("word", laid, ITEM, {"qty": True, "word": "abcdef"})

    def test_other_order_and_more_besides(self):
        plain = laid(ITEM, {"word": "ab", "qty": 12})
        self.assertEqual(laid(ITEM, {"qty": 12, "word": "ab"}), plain)
        self.assertEqual(laid(ITEM, {"z": object(), "qty": 12, 1: 2, "word": "ab", None: "\n"}), plain)

    def test_what_is_handed_in_is_left_as_it_was(self):
        for worths in ({"qty": 12, "word": "ab", "z": []}, {"qty": 12, "z": []}):
            kept = dict(worths)
            try:
                laid(ITEM, worths)
            except NoRecord:
                pass
            self.assertEqual(list(worths.items()), list(kept.items()))

    def test_what_is_laid_is_cut_again_to_the_same(self):
        for word in ("abcde", "     ", " a b "):
            for qty in (0, 7, 99999, -1, -9999):
                worths = {"word": word, "qty": qty}
                self.assertEqual(cut(ITEM, laid(ITEM, worths)), worths)
        self.assertEqual(cut(ITEM, laid(ITEM, {"word": "ab", "qty": 1})), {"word": "ab   ", "qty": 1})

    def test_what_is_cut_is_laid_again(self):
        record = wide("iab c     12")
        self.assertEqual(laid(ITEM, cut(ITEM, record)), record)
        # Noughts ahead, -0, blank numbers and columns of no field are not laid again.
        self.assertEqual(laid(ITEM, cut(ITEM, wide("iab c x00012y"))), record)
        for signs in ("     ", "   -0", "00000"):
            self.assertEqual(laid(ITEM, cut(ITEM, wide("iab c  " + signs))), wide("iab c      0"))
