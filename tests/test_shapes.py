import unittest

from tests.things import Agreeable, odd_but
from totalround.errors import NoShape
from totalround.shapes import Shape, is_name


def field(name="a", column=1, length=1, kind="text"):
    return (name, column, length, kind)


class Names(unittest.TestCase):
    def test_one_to_six_small_letters(self):
        for name in ("a", "z", "az", "abcdef", "zzzzzz"):
            self.assertIs(is_name(name), True, name)

    def test_too_few_and_too_many(self):
        for name in ("", "abcdefg", "a" * 1000):
            self.assertIs(is_name(name), False, name)

    def test_other_signs(self):
        for sign in ("A", "Z", "0", "_", "-", " ", "`", "{", "\n", "\x00", "\u00e9", "\u00df", "\u0430", "\uff41"):
            for name in (sign, "a" + sign, sign + "a", "ab" + sign + "cd"):
                self.assertIs(is_name(name), False, repr(name))

    def test_other_things(self):
        for thing in odd_but(str):
            self.assertIs(is_name(thing), False, repr(thing))
        self.assertIs(is_name(["a", "b"]), False)
        self.assertIs(is_name(("a", "b")), False)


class ShapeCase(unittest.TestCase):
    def made(self, mark, *fields):
        shape = Shape("s", mark, fields)
        self.assertEqual((shape.name, shape.mark, shape.fields), ("s", mark, fields))

    def refused(self, *parts):
        with self.subTest(parts=repr(parts)), self.assertRaises(NoShape) as caught:
            Shape(*parts)
        self.assertIs(type(caught.exception), NoShape)


class Parts(ShapeCase):
    def test_fields_are_kept(self):
        self.made((1, "x"), field("a", 2, 20, "text"), field("b", 30, 9, "number"))
        self.made(None)

    def test_names(self):
        for name in ("", "abcdefg", "A", "a1", "a\n"):
            self.refused(name, None, ())
            self.refused("s", None, (field(name),))
        for thing in odd_but(str):
            self.refused(thing, None, ())
            self.refused("s", None, (field(thing),))

    def test_the_longest_names(self):
        self.assertEqual(Shape("abcdef", None, (field("ghijkl"),)).name, "abcdef")

    def test_mark_columns(self):
        for column in (1, 2, 59, 60):
            self.made((column, "x"))
        for column in (0, -1, 61, 10 ** 30):
            self.refused("s", (column, "x"), ())
        for thing in odd_but(int) + [True]:
            self.refused("s", (thing, "x"), ())

    def test_mark_signs(self):
        for code in range(32, 127):
            self.made((1, chr(code)))
        for sign in ("", "xy", "  ", "\x1f", "\x7f", "\n", "\u00e9", "\ud800"):
            self.refused("s", (1, sign), ())
        for thing in odd_but(str):
            self.refused("s", (1, thing), ())

    def test_marks_that_are_no_pairs(self):
        for mark in ((), (1,), (1, "x", 1), [1, "x"], "1x", {1: "x"}, ("x", 1)):
            self.refused("s", mark, ())
        for thing in odd_but(type(None)):
            self.refused("s", thing, ())

    def test_eight_fields_and_nine(self):
        fields = tuple(field("abcdefghi"[k], k + 1) for k in range(9))
        self.made(None, *fields[:8])
        self.refused("s", None, fields)

    def test_fields_that_are_no_tuple(self):
        self.refused("s", None, [field()])
        self.refused("s", None, field())
        self.refused("s", None, {field(): 1})
        for thing in odd_but(tuple):
            self.refused("s", None, thing)

    def test_things_that_are_no_field(self):
        for thing in (("a", 1, 1), ("a", 1, 1, "text", 1), ["a", 1, 1, "text"], (), "text"):
            self.refused("s", None, (thing,))
            self.refused("s", None, (field("b", 9), thing))
        for thing in odd_but():
            self.refused("s", None, (thing,))

    def test_kinds(self):
        for kind in ("", "Text", "texts", "num", "int", b"text", ["text"], ("text",), Agreeable()):
            self.refused("s", None, (field(kind=kind),))
        for thing in odd_but(str):
            self.refused("s", None, (field(kind=thing),))

    def test_columns_of_fields(self):
        for column in (1, 2, 59, 60):
            self.made(None, field(column=column))
            self.made(None, field(column=column, kind="number"))
        for column in (0, -1, 61):
            self.refused("s", None, (field(column=column),))
        for thing in odd_but(int) + [True]:
            self.refused("s", None, (field(column=thing),))

    def test_lengths(self):
        for kind, most in (("text", 20), ("number", 9)):
            for length in (1, 2, most - 1, most):
                self.made(None, field(length=length, kind=kind))
            for length in (0, -1, most + 1, 60):
                self.refused("s", None, (field(length=length, kind=kind),))
            for thing in odd_but(int) + [True]:
                self.refused("s", None, (field(length=thing, kind=kind),))

    def test_ends(self):
        for kind, length in (("text", 20), ("number", 9), ("text", 2)):
            self.made(None, field("a", 61 - length, length, kind))
            self.refused("s", None, (field("a", 62 - length, length, kind),))

    def test_fields_that_touch_and_that_share(self):
        self.made(None, field("a", 1, 5), field("b", 6, 5))
        self.made(None, field("b", 6, 5), field("a", 1, 5))
        self.refused("s", None, (field("a", 1, 5), field("b", 5, 5)))
        self.refused("s", None, (field("b", 5, 5), field("a", 1, 5)))
        self.refused("s", None, (field("a", 1, 20), field("b", 9, 2, "number")))
        self.refused("s", None, (field("a", 3, 4), field("c", 20, 1), field("b", 3, 4)))

    def test_two_of_one_name(self):
        self.refused("s", None, (field("a", 1), field("a", 2)))
        self.refused("s", None, (field("a", 1), field("b", 2), field("a", 3, 2, "number")))

    def test_a_field_may_be_called_as_its_shape(self):
        self.made(None, field("s"))

    def test_the_marks_column(self):
        fields = (field("a", 2, 3), field("b", 6, 2, "number"))
        for column in (1, 5, 8, 60):
            self.made((column, "x"), *fields)
        for column in (2, 3, 4, 6, 7):
            self.refused("s", (column, "x"), fields)

    def test_by_place(self):
        with self.assertRaises(TypeError):
            Shape("s", None)


class Equality(unittest.TestCase):
    def test_equal_parts(self):
        one = Shape("s", (1, "x"), (field("a", 2),))
        self.assertTrue(one == Shape("s", (1, "x"), (field("a", 2),)))
        self.assertFalse(one != Shape("s", (1, "x"), (field("a", 2),)))

    def test_other_parts(self):
        fields = (field("a", 2), field("b", 3))
        one = Shape("s", (1, "x"), fields)
        others = [Shape("t", (1, "x"), fields), Shape("s", None, fields), Shape("s", (1, "y"), fields),
                  Shape("s", (4, "x"), fields), Shape("s", (1, "x"), fields[:1]),
                  Shape("s", (1, "x"), (fields[1], fields[0])), Shape("s", (1, "x"), ())]
        for other in others:
            self.assertFalse(one == other)
            self.assertTrue(one != other)

    def test_other_things(self):
        one = Shape("s", None, ())
        for thing in odd_but(Agreeable) + [("s", None, ())]:
            self.assertFalse(one == thing)
            self.assertTrue(one != thing)
        self.assertIs(one.__eq__(Agreeable()), False)
