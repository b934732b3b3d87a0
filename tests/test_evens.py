import copy
import random
import unittest

from tests.even import AA, BB, CC, LEVELS, SHAPES, SOURCES, even, some_even
from tests.things import number, odd_but, text
from totalround.errors import NoEven
from totalround.evens import is_even, letters, stepped
from totalround.levels import broken
from totalround.merging import ordered
from totalround.programs import Program, cells
from totalround.records import laid
from totalround.reports import report
from totalround.rounds import run
from totalround.shapes import Shape
from totalround.sources import Source

LEAVE = ("total", (), ("leave",))


def of_shapes(*shapes, by=()):
    return Program((Source("book", shapes, by=by),))


class Even(unittest.TestCase):
    def told(self, worth, program):
        self.assertIs(is_even(program), worth)

    def test_the_least(self):
        self.told(True, of_shapes(Shape("s", None, ())))
        self.told(True, even())

    def test_sources(self):
        one, two = Source("one", (AA,)), Source("two", (BB,))
        self.told(True, Program((one,)))
        self.told(False, Program((one, two)))

    def test_keys(self):
        self.told(True, of_shapes(AA))
        self.told(False, of_shapes(AA, by=("day",)))
        self.told(False, of_shapes(AA, CC, by=("day", "town")))

    def test_one_shape(self):
        for mark in (None, (1, "x"), (60, " ")):
            self.told(True, of_shapes(Shape("s", mark, (text("d", 2),))))

    def test_marks_of_several(self):
        fields = (text("d", 2),)
        one = Shape("s", (1, "x"), fields)
        self.told(True, of_shapes(one, Shape("t", (1, "y"), fields)))
        self.told(True, of_shapes(one, Shape("t", (1, " "), ()), Shape("u", (1, "z"), fields), Shape("v", (1, "X"), ())))
        self.told(False, of_shapes(one, Shape("t", (2, "y"), ())))
        self.told(False, of_shapes(one, Shape("t", (60, "x"), ())))
        self.told(False, of_shapes(one, Shape("t", (1, "y"), ()), Shape("u", (4, "z"), fields)))
        self.told(False, of_shapes(one, Shape("t", None, fields)))
        self.told(False, of_shapes(Shape("t", None, fields), one))
        self.told(False, of_shapes(Shape("s", None, ()), Shape("t", None, ())))
        self.told(False, of_shapes(one, Shape("t", (1, "x"), ())))
        self.told(False, of_shapes(one, Shape("t", (1, "y"), ()), Shape("u", (1, "y"), fields)))

    def test_fields_in_the_marks_column(self):
        # A shape's own field never has its mark's column, so that its mark is none or stands elsewhere.
        one = Shape("s", (5, "x"), (text("d", 6),))
        for column, length in ((5, 1), (4, 2), (1, 5), (5, 20)):
            fields = (text("f", column, length),)
            self.told(False, of_shapes(one, Shape("t", None, fields)))
            self.told(False, of_shapes(one, Shape("t", (60, "y"), fields)))
        for column, length in ((4, 1), (1, 4), (6, 20)):
            self.told(True, of_shapes(one, Shape("t", (5, "y"), (text("f", column, length),))))

    def test_levels(self):
        self.told(True, even(levels=()))
        self.told(True, even(levels=("day",)))
        self.told(True, even(levels=("town", "day")))
        self.told(False, even(levels=("qty",)))
        self.told(False, even(levels=("day", "price")))
        self.told(False, even(levels=("price", "town")))

    def test_deeds(self):
        for deed in (("set", "a", ((1, "qty"),)), ("on", "f"), ("off", "f"), ("leave",)):
            self.told(True, even(((("total"), (), deed),)))
        for deed in (("times", "a", "qty", "price"), ("ask", "same", (), (), "f")):
            for ahead in ((), (LEAVE,)):
                for behind in ((), (LEAVE,)):
                    self.told(False, even((*ahead, ("detail", (("f", True), ("f", False)), deed), *behind)))

    def test_parts(self):
        self.told(True, even(lines=(("total", (), (("text", "words"), ("number", "a"), ("number", "qty")), ("a",)),)))
        self.told(False, even(lines=(("total", (), (("words", "day"),), ()),)))
        self.told(False, even(lines=(("total", (), (), ()), ("detail", (("LR", True),), (("text", ""), ("words", "town")), ()))))

    def test_flags_and_boxes(self):
        for many in range(4):
            self.told(many <= 2, even(flags=tuple("fgh"[:many]), boxes=()))
        for many in range(7):
            self.told(many <= 4, even(boxes=tuple("abcdei"[:many]), flags=("f", "g")))

    def test_reports_of_one_level(self):
        self.told(True, report(SOURCES, ("day",), "qty"))
        self.told(False, report(SOURCES, LEVELS, "qty"))

    def test_other_things(self):
        for thing in odd_but() + [SOURCES, SOURCES[0], AA, Program, (even(),), [even()]]:
            self.told(False, thing)

    def test_a_program_that_is_none_any_more(self):
        program = even()
        program.steps = [LEAVE]
        self.told(False, program)
        program = even()
        program.sources = None
        self.told(False, program)


class Letters(unittest.TestCase):
    def told(self, program, stand, expected):
        told = letters(program, stand)
        self.assertIs(type(told), list)
        self.assertEqual(len(told), len(set(told)))
        self.assertEqual(set(told), set(expected))

    def test_with_levels(self):
        program = even()
        for first in (True, False):
            for flags in ((), ("f",)):
                for others in ((), ("g",), ("g", "h")):
                    self.told(program, (flags, others, first, False), [("aa", 2), ("bb", 0), ("cc", 2), None])
                    self.told(program, (flags, others, first, True), [
                        ("aa", 0), ("aa", 1), ("aa", 2), ("bb", 0), ("cc", 0), ("cc", 1), ("cc", 2), None])

    def test_one_level_of_which_all_have_the_field(self):
        self.told(even(levels=("day",)), ((), (), True, False), [("aa", 1), ("bb", 1), ("cc", 1), None])
        self.told(even(levels=("day",)), ((), (), False, True), [
            (name, height) for name in SHAPES for height in (0, 1)] + [None])

    def test_no_levels(self):
        for levelled in (False, True):
            self.told(even(levels=()), ((), (), False, levelled), [("aa", 0), ("bb", 0), ("cc", 0), None])

    def test_three_levels(self):
        shape = Shape("s", None, (text("x", 1), text("y", 3), text("z", 5)))
        program = Program((Source("book", (shape,)),), levels=("z", "x", "y"))
        self.told(program, ((), (), True, False), [("s", 3), None])
        self.told(program, ((), (), False, True), [("s", 0), ("s", 1), ("s", 2), ("s", 3), None])

    def test_levels_that_no_shape_has_together(self):
        shapes = (Shape("s", (1, "s"), (text("x", 2),)), Shape("t", (1, "t"), (text("y", 2),)))
        program = Program((Source("book", shapes),), levels=("x", "y"))
        for levelled in (False, True):
            self.told(program, ((), (), False, levelled), [("s", 0), ("t", 0), None])

    def test_asked_again(self):
        told = letters(even(), ((), (), True, False))
        kept = list(told)
        told.clear()
        self.assertEqual(letters(even(), ((), (), True, False)), kept)

    def test_uneven(self):
        for thing in odd_but() + [even(levels=("qty",)), of_shapes(AA, by=("day",))]:
            with self.assertRaises(NoEven) as caught:
                letters(thing, ((), (), True, False))
            self.assertIs(type(caught.exception), NoEven)


def line(time, *names, when=(), cleared=()):
    return (time, when, tuple(("number", name) for name in names), cleared)


class Stepped(unittest.TestCase):
    # Its cells are qty and price, so vectors are (qty, price, a, b, c).
    ONE = even(
        (("total", (), ("set", "a", ((1, "a"), (2, "qty"), (1, "")))), ("detail", (), ("set", "b", ((1, "a"), (1, "price")))),
         ("detail", (("f", True),), ("off", "f")), ("detail", (("bb", True),), ("on", "f"))),
        (line("total", "qty", "a", cleared=("a",)), line("detail", "b", when=(("L1", True), ("L2", False)))))
    OTHER = even(
        (("total", (("LR", True),), ("set", "c", ((5, ""),))), ("detail", (("L2", True),), ("on", "h"))),
        (line("detail", "qty", "price"), line("total", "c", when=(("h", True),))), boxes=("c",), flags=("g", "h"))
    BEGIN = ((), (), True, False)
    SOME = (("f",), ("g", "h"), False, True)
    VECTOR = (7, 11, 100, 200, 300)

    def told(self, expected, stand, letter, moved, vector=VECTOR, one=ONE, other=OTHER):
        kept = copy.deepcopy((stand, vector, letter, moved))
        told = stepped(one, other, stand, vector, letter, moved)
        self.assertEqual(told, expected)
        self.assertEqual([type(thing) for thing in told[:2]], [list, list])
        self.assertIs(type(told), tuple)
        self.assertEqual((stand, vector, letter, moved), kept)

    def test_the_first_round(self):
        self.assertEqual(cells(self.ONE), ["qty", "price"])
        self.told(([], [(3, 4)], ((), ("h",), False, True), (3, 4, 100, 104, 300)), self.BEGIN, ("aa", 2), (3, 4))

    def test_a_later_round(self):
        self.told(([(7, 115)], [(300,), (3, 4)], ((), ("g", "h"), False, True), (3, 4, 0, 4, 300)),
                  (("f",), ("g", "h"), False, False), ("aa", 2), (3, 4))

    def test_each_height(self):
        behind = ((), ("g",), False, True)
        stand = (("f",), ("g",), False, True)
        self.told(([(7, 115)], [(3, 4)], behind, (3, 4, 0, 4, 300)), stand, ("aa", 0), (3, 4))
        self.told(([(7, 115), (4,)], [(3, 4)], behind, (3, 4, 0, 4, 300)), stand, ("aa", 1), (3, 4))
        self.told(([(7, 115)], [(3, 4)], ((), ("g", "h"), False, True), (3, 4, 0, 4, 300)), stand, ("aa", 2), (3, 4))

    def test_a_shape_that_moves_some_or_none(self):
        self.told(([(7, 115)], [(300,), (9, 11)], (("f",), ("g", "h"), False, True), (9, 11, 0, 11, 300)), self.SOME, ("bb", 0), (9,))
        self.told(([(7, 115)], [(300,), (7, 11)], ((), ("g", "h"), False, True), (7, 11, 0, 11, 300)), self.SOME, ("cc", 0), ())

    def test_behind_a_shape_that_is_not_levelled(self):
        for levelled in (False, True):
            told = stepped(self.ONE, self.OTHER, ((), (), False, levelled), self.VECTOR, ("bb", 0), (0,))
            self.assertEqual(told[2], (("f",), (), False, levelled))
        for levelled in (False, True):
            told = stepped(self.ONE, self.OTHER, ((), (), False, levelled), self.VECTOR, ("cc", 2), ())
            self.assertEqual(told[2], ((), ("h",), False, True))

    def test_the_last_round(self):
        self.told(([(7, 115)], [(5,)], None, None), self.SOME, None, ())
        # It has total time also ahead of the first record.
        self.told(([(7, 115)], [], None, None), self.BEGIN, None, ())

    def test_the_other_way_about(self):
        vector = (7, 11, 300, 100, 200)
        told = stepped(self.OTHER, self.ONE, (("h",), ("f",), False, True), vector, ("aa", 1), (3, 4))
        self.assertEqual(told, ([(300,), (3, 4)], [(7, 115), (4,)], (("h",), (), False, True), (3, 4, 300, 0, 4)))

    def test_a_box_of_one_name_in_both(self):
        other = even((("total", (), ("set", "a", ((2, "a"),))),), (line("total", "a", "b"),))
        self.told(([], [(8, 4)], ((), (), False, True), (0, 0, 1, 1, 8, 4)),
                  (("f",), (), False, True), ("cc", 0), (), vector=(0, 0, 1, 2, 4, 4), one=even(
                      (("total", (), ("leave",)), ("detail", (), ("set", "b", ((1, "a"),))), ("detail", (), ("off", "f")))), other=other)

    def test_moved_numbers_stand_in_the_order_of_the_shape(self):
        shapes = (Shape("s", (1, "s"), (number("x", 20), text("w", 50), number("y", 2))),
                  Shape("t", (1, "t"), (number("z", 2), number("y", 30), number("x", 40))))
        program = Program((Source("book", shapes),))
        self.assertEqual(cells(program), ["x", "y", "z"])
        told = stepped(program, program, ((), (), False, False), (7, 8, 9), ("s", 0), (1, 2))
        self.assertEqual(told, ([], [], ((), (), False, False), (1, 2, 9)))
        told = stepped(program, program, ((), (), False, False), (7, 8, 9), ("t", 0), (1, 2, 3))
        self.assertEqual(told, ([], [], ((), (), False, False), (3, 2, 1)))

    def test_what_is_told_is_the_asker_s_own(self):
        told = stepped(self.ONE, self.OTHER, self.SOME, self.VECTOR, None, ())
        told[0].clear()
        told[1].append(None)
        self.told(([(7, 115)], [(5,)], None, None), self.SOME, None, ())

    def test_refused(self):
        uneven = (even(levels=("qty",)), even(flags=("f", "g", "h")), *odd_but())
        apart = (even(levels=("day",)), even(levels=LEVELS[::-1]), even(levels=()),
                 even(sources=(Source("book", (AA, CC, BB)),)), even(sources=(Source("other", (AA, BB, CC)),)),
                 even(sources=(Source("book", (AA, BB, CC, Shape("dd", (1, "d"), ()))),)))
        for thing in (*uneven, *apart):
            for pair in ((self.ONE, thing), (thing, self.ONE)):
                with self.assertRaises(NoEven) as caught:
                    stepped(*pair, self.BEGIN, (0, 0), None, ())
                self.assertIs(type(caught.exception), NoEven)
        with self.assertRaises(NoEven):
            stepped(uneven[0], uneven[0], self.BEGIN, (0, 0), None, ())


class BesideRuns(unittest.TestCase):
    """Round by round stepped tells what run tells."""

    def test_programs_of_all_kinds(self):
        for seed in range(150):
            rng = random.Random(seed)
            levels = LEVELS[:rng.randint(0, 2)]
            one, other = some_even(rng, ("a", "b"), ("f", "g"), levels), some_even(rng, ("c",), ("h",), levels)
            records = []
            for _ in range(rng.randint(0, 5)):
                shape = rng.choice((AA, BB, CC))
                records.append(laid(shape, {"day": rng.choice("xy"), "town": rng.choice("xy"),
                                            "qty": rng.randint(-9, 9), "price": rng.randint(0, 99)}))
            self.check(one, other, records)

    def check(self, one, other, records):
        rows = {"book": records}
        stand, vector = ((), (), True, False), (0,) * 5
        expected = list(zip(run(one, rows).pages, run(other, rows).pages))
        heights = broken(SOURCES, rows, one.levels)
        for (_, at, shape, _), height, pages in zip(ordered(SOURCES, rows), heights, expected):
            letter = (shape, height)
            self.assertIn(letter, letters(one, stand))
            fields = [field for field in SHAPES[shape].fields if field[3] == "number"]
            moved = tuple(int(records[at][column - 1:column - 1 + length]) for _, column, length, _ in fields)
            lines, others, stand, vector = stepped(one, other, stand, vector, letter, moved)
            self.assertEqual((lines, others), pages)
        self.assertEqual(stepped(one, other, stand, vector, None, ()), (*expected[-1], None, None))


if __name__ == "__main__":
    unittest.main()
