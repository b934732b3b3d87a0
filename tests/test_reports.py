import copy
import itertools
import random
import unittest

from tests.plain import LAYOUTS, some_rows
from tests.things import number, odd_but, text, wide
from totalround.errors import NoOrder, NoProgram, NoRecord, NoSource
from totalround.programs import Program
from totalround.records import laid
from totalround.reports import group_keys, grouped, report
from totalround.rounds import run
from totalround.shapes import Shape
from totalround.sources import Source

# A sale is levelled by all, a gift is too but has no qty, a visit is not, a note has the qty alone.
SALE = Shape("sale", (1, "s"), (text("day", 2), text("month", 4), number("year", 6), number("qty", 10)))
GIFT = Shape("gift", (1, "g"), (number("year", 20), text("month", 30), text("day", 40)))
VISIT = Shape("visit", (1, "v"), (text("day", 2), number("qty", 10)))
NOTE = Shape("note", (1, "n"), (number("qty", 20),))
BOOK = (Source("book", (SALE, GIFT, VISIT, NOTE)),)
LEVELS = ("day", "month", "year")
SHAPES = {shape.name: shape for shape in (SALE, GIFT, VISIT, NOTE)}


def row(kind, day="mo", month="ja", year=1, qty=0):
    return laid(SHAPES[kind], {"day": day, "month": month, "year": year, "qty": qty})


def sale(qty, day="mo", month="ja", year=1):
    return row("sale", day, month, year, qty)


def printed(program, rows):
    return [told for page in run(program, rows, most=10 ** 6).pages for told in page]


class Reports(unittest.TestCase):
    def told(self, expected, *records, levels=LEVELS, cell="qty"):
        rows = {"book": list(records)}
        program = report(BOOK, levels, cell)
        pages = run(program, rows).pages
        self.assertEqual(pages, expected)
        lines = [line for page in expected for line in page]
        self.assertEqual(grouped(BOOK, rows, levels, cell), lines)
        self.assertEqual(printed(report(BOOK, levels, cell, prefix="rep"), rows), lines)

    def test_no_record(self):
        for many in (1, 2, 3):
            self.told([[("LR", 0, 0)]], levels=LEVELS[:many])

    def test_records_of_no_levelled_shape_alone(self):
        self.told([[], [], [], [("LR", 0, 0)]], row("visit", qty=5), row("note", qty=6), row("visit", qty=7))

    def test_one_record(self):
        self.told([[], [("L1", 5, 1), ("LR", 5, 1)]], sale(5), levels=("day",))
        self.told([[], [("L1", 5, 1), ("L2", 5, 1), ("L3", 5, 1), ("LR", 5, 1)]], sale(5))

    def test_one_level(self):
        self.told([[], [], [("L1", 3, 2)], [("L1", 4, 1)], [], [("L1", 16, 2), ("LR", 23, 5)]],
                  sale(1), sale(2), sale(4, "tu"), sale(8), sale(8), levels=("day",))

    def test_a_break_of_the_lowest_of_a_higher_one_and_of_all(self):
        self.told([[], [], [("L1", 3, 2)], [("L1", 4, 1), ("L2", 7, 3)], [("L1", 8, 1), ("L2", 8, 1), ("L3", 15, 4)],
                   [("L1", 16, 1), ("L2", 16, 1), ("L3", 16, 1), ("LR", 31, 5)]],
                  sale(1), sale(2), sale(4, "tu"), sale(8, "tu", "fe"), sale(16, "we", "ma", 2))

    def test_the_highest_alone_changes(self):
        self.told([[], [("L1", 1, 1), ("L2", 1, 1), ("L3", 1, 1)],
                   [("L1", 2, 1), ("L2", 2, 1), ("L3", 2, 1), ("LR", 3, 2)]], sale(1), sale(2, year=2))

    def test_a_worth_that_comes_again(self):
        self.told([[], [("L1", 1, 1)], [("L1", 2, 1)], [("L1", 4, 1), ("LR", 7, 3)]],
                  sale(1, "mo"), sale(2, "tu"), sale(4, "mo"), levels=("day",))
        # The same day in another month is another group.
        self.told([[], [("L1", 1, 1), ("L2", 1, 1)], [("L1", 2, 1), ("L2", 2, 1), ("LR", 3, 2)]],
                  sale(1, "mo", "ja"), sale(2, "mo", "fe"), levels=("day", "month"))

    def test_records_of_no_levelled_shape_between(self):
        self.told([[], [], [], [], [], [("L1", 3, 2)], [("L1", 4, 1), ("L2", 7, 3), ("LR", 7, 3)]],
                  row("note", qty=90), row("visit", "we", qty=80), sale(1), row("visit", "tu", qty=70), sale(2),
                  sale(4, "tu"), levels=("day", "month"))

    def test_a_levelled_record_without_the_cell(self):
        self.told([[], [], [("L1", 5, 1), ("L2", 5, 1)], [("L1", 0, 0), ("L2", 0, 0), ("LR", 5, 1)]],
                  sale(5), row("gift"), row("gift", "mo", "fe"), levels=("day", "month"))
        self.told([[], [("L1", 0, 0)], [("L1", 7, 1), ("L2", 7, 1), ("LR", 7, 1)]],
                  row("gift"), sale(7, "tu"), levels=("day", "month"))

    def test_a_cell_of_unlevelled_shapes_alone(self):
        sources = (Source("book", (GIFT, Shape("loose", None, (number("qty", 20),)))),)
        rows = {"book": [row("gift"), wide(" " * 19 + "  7"), row("gift", "tu")]}
        lines = [("L1", 0, 0), ("L1", 0, 0), ("L2", 0, 0), ("LR", 0, 0)]
        self.assertEqual(printed(report(sources, ("day", "month"), "qty"), rows), lines)
        self.assertEqual(grouped(sources, rows, ("day", "month"), "qty"), lines)

    def test_levels_that_no_shape_has_together(self):
        sources = (Source("book", (Shape("s", (1, "s"), (text("day", 2),)), Shape("t", None, (number("qty", 2),)))),)
        rows = {"book": [wide("smo"), wide("   4")]}
        self.assertEqual(printed(report(sources, ("day", "qty"), "qty"), rows), [("LR", 0, 0)])
        self.assertEqual(grouped(sources, rows, ("day", "qty"), "qty"), [("LR", 0, 0)])
        self.assertEqual(group_keys(sources, rows, ("day", "qty"), 1), [])

    def test_noughts_and_numbers_below_0(self):
        self.told([[], [], [], [("L1", -5, 3), ("LR", -5, 3)]], sale(0), sale(-9), sale(4), levels=("day",))

    def test_a_level_that_is_a_number(self):
        self.told([[], [("L1", 1, 1)], [("L1", 2, 1), ("LR", 3, 2)]], sale(1, year=1), sale(2, year=-1), levels=("year",))

    def test_the_cell_may_be_a_level(self):
        self.told([[], [], [("L1", 6, 2)], [("L1", 4, 1), ("LR", 10, 3)]],
                  sale(1, year=3), sale(2, year=3), sale(4, year=4), levels=("year",), cell="year")

    def test_several_sources(self):
        for seed in range(120):
            rng = random.Random(seed)
            sources, levels = LAYOUTS[seed % len(LAYOUTS)]
            levels = rng.sample(levels, rng.randint(1, len(levels)))
            rows = some_rows(rng, sources, 8)
            with self.subTest(seed=seed):
                program = report(sources, tuple(levels), "qty", prefix="q")
                self.assertEqual(printed(program, rows), grouped(sources, rows, tuple(levels), "qty"))

    def test_every_run_of_a_few(self):
        records = [sale(1, "mo", "ja"), sale(2, "tu", "ja"), sale(4, "mo", "fe"), row("gift", "tu"), row("note", qty=9)]
        program = report(BOOK, ("day", "month"), "qty")
        for many in range(5):
            for some in itertools.product(records, repeat=many):
                rows = {"book": list(some)}
                self.assertEqual(printed(program, rows), grouped(BOOK, rows, ("day", "month"), "qty"))

    def test_as_many_shapes_as_there_may_be(self):
        fields = (text("x", 2), text("y", 4), text("z", 6), number("qty", 10))
        sources = tuple(Source(place, tuple(Shape(place + mark, (1, mark), fields) for mark in "pqrs")) for place in "klmn")
        rows = {place: [(mark + "aabbcc".ljust(8) + str(k).rjust(3)).ljust(60) for k, mark in enumerate("pqrs")]
                for place in "klmn"}
        program = report(sources, ("x", "y", "z"), "qty", prefix="rep")
        self.assertEqual(printed(program, rows), [("L1", 24, 16), ("L2", 24, 16), ("L3", 24, 16), ("LR", 24, 16)])


class Programs(unittest.TestCase):
    def test_boxes_and_flag(self):
        for many in (1, 2, 3):
            for prefix in ("", "r", "abcde"):
                if many == 3 and prefix == "":
                    continue
                program = report(BOOK, LEVELS[:many], "qty", prefix=prefix)
                self.assertIs(type(program), Program)
                letters = "abcdefgh"[:2 * many + 2]
                self.assertEqual(program.boxes, tuple(prefix + letter for letter in letters))
                self.assertEqual(program.flags, (prefix + "z",))
                self.assertEqual(program.levels, LEVELS[:many])
                self.assertEqual(program.sources, BOOK)
        self.assertEqual(report(BOOK, LEVELS, "qty").boxes, tuple("abcdefgh"))

    def test_no_times_no_ask_no_words(self):
        for many in (1, 2, 3):
            program = report(BOOK, LEVELS[:many], "qty")
            self.assertEqual({deed[0] for _, _, deed in program.steps} - {"set", "on", "off", "leave"}, set())
            self.assertEqual({kind for _, _, parts, _ in program.lines for kind, _ in parts} - {"text", "number"}, set())

    def test_lines_are_told_at_total_time(self):
        self.assertEqual({line[0] for line in report(BOOK, LEVELS, "qty").lines}, {"total"})

    def test_as_often_as_asked(self):
        self.assertEqual(report(BOOK, LEVELS, "qty"), report(BOOK, LEVELS, "qty", prefix=""))
        self.assertEqual(report(BOOK, LEVELS, "qty", prefix="x"), report(BOOK, LEVELS, "qty", prefix="x"))


class Refused(unittest.TestCase):
    def refused(self, sources=BOOK, levels=("day",), cell="qty", **given):
        with self.subTest(told=repr((sources, levels, cell, given))), self.assertRaises(NoProgram) as caught:
            report(sources, levels, cell, **given)
        self.assertIs(type(caught.exception), NoProgram)

    def test_sources(self):
        for thing in odd_but() + [list(BOOK), BOOK[0], BOOK * 2, (None,)]:
            self.refused(sources=thing)
        # These are sources, but not of a program.
        self.refused(sources=(*BOOK, Source("other", (SALE,))))
        self.refused(sources=(Source("book", (Shape("qty", None, (number("qty", 2), text("day", 10))),)),))

    def test_levels(self):
        for thing in odd_but() + [["day"], "day", ("none",), ("day", "day"), ("day", "none"), ("Day",), ("sale",),
                                  ("day", "month", "year", "qty"), ("day", None), ("day", 1), {"day": 1}]:
            self.refused(levels=thing)

    def test_cells(self):
        for thing in odd_but() + ["day", "month", "none", "sale", "book", "", "Qty", "qty ", ("qty",), ["qty"]]:
            self.refused(cell=thing)

    def test_prefixes(self):
        for thing in odd_but(str) + ["abcdef", "abcdefg", "A", "a1", " ", "\u00e9", "-", "a ", ["a"], "a\n"]:
            self.refused(prefix=thing)
        self.assertEqual(report(BOOK, ("day",), "qty", prefix="abcde").boxes[0], "abcdea")

    def test_names_like_those_of_shapes_and_fields(self):
        for name in ("wa", "wd", "wz"):
            for shape in (Shape(name, (1, "w"), ()), Shape("own", (1, "w"), (number(name, 2),)),
                          Shape("own", (1, "w"), (text(name, 2),))):
                sources = (Source("book", (SALE, shape)),)
                self.refused(sources=sources, prefix="w")
                report(sources, ("day",), "qty", prefix="v")
        # With two levels there is a box more, and another one.
        sources = (Source("book", (SALE, Shape("we", (1, "w"), ()))),)
        report(sources, ("day",), "qty", prefix="w")
        self.refused(sources=sources, levels=("day", "month"), prefix="w")
        # A source's name is free.
        report((Source("wa", (SALE,)),), ("day",), "qty", prefix="w")

    def test_no_prefix_like_a_field(self):
        sources = (Source("book", (Shape("s", None, (text("b", 1), number("q", 5))),)),)
        self.refused(sources=sources, levels=("b",), cell="q")
        report(sources, ("b",), "q", prefix="x")

    def test_a_prefix_is_handed_in_by_name(self):
        with self.assertRaises(TypeError):
            report(BOOK, ("day",), "qty", "x")

    def test_grouped_and_group_keys(self):
        for asked in (lambda sources, rows: grouped(sources, rows, ("day",), "qty"),
                      lambda sources, rows: group_keys(sources, rows, ("day",), 1)):
            for thing in odd_but() + [list(BOOK), BOOK * 2]:
                with self.assertRaises(NoSource) as caught:
                    asked(thing, {"book": [None]})
                self.assertIs(type(caught.exception), NoSource)
            with self.assertRaises(NoRecord) as caught:
                asked(BOOK, {"book": [sale(1), wide("s".ljust(9) + "x")]})
            self.assertEqual(caught.exception.name, "book/qty")
            keyed = (Source("book", (SALE, GIFT), by=("year",)),)
            with self.assertRaises(NoOrder) as caught:
                asked(keyed, {"book": [sale(1, year=2), sale(1, year=3), sale(1, year=1), None]})
            self.assertEqual((caught.exception.name, caught.exception.at), ("book", 2))


class Grouped(unittest.TestCase):
    ROWS = {"book": [row("note", qty=4), sale(1), sale(2), sale(4, "tu"), row("visit", "we"), row("gift", "tu", "fe"),
                     sale(8, "mo", "fe", 2), sale(16, "mo", "fe", 2)]}

    def test_group_keys(self):
        ja, fe = ("mo", "ja", 1), ("tu", "ja", 1)
        self.assertEqual(group_keys(BOOK, self.ROWS, LEVELS, 1), [ja, fe, ("tu", "fe", 1), ("mo", "fe", 2)])
        self.assertEqual(group_keys(BOOK, self.ROWS, LEVELS, 2), [("ja", 1), ("fe", 1), ("fe", 2)])
        self.assertEqual(group_keys(BOOK, self.ROWS, LEVELS, 3), [(1,), (2,)])
        self.assertEqual(group_keys(BOOK, self.ROWS, ("day",), 1), [("mo",), ("tu",), ("we",), ("tu",), ("mo",)])
        self.assertEqual(group_keys(BOOK, self.ROWS, ("year", "day"), 2), [("mo",), ("tu",), ("mo",)])

    def test_group_keys_of_none(self):
        for k in (1, 2, 3):
            self.assertEqual(group_keys(BOOK, {}, LEVELS, k), [])
            self.assertEqual(group_keys(BOOK, {"book": [row("note"), row("visit")]}, LEVELS, k), [])

    def test_as_many_keys_as_lines(self):
        told = grouped(BOOK, self.ROWS, LEVELS, "qty")
        self.assertEqual(told, [
            ("L1", 3, 2), ("L1", 4, 1), ("L2", 7, 3), ("L1", 0, 0), ("L2", 0, 0), ("L3", 7, 3),
            ("L1", 24, 2), ("L2", 24, 2), ("L3", 24, 2), ("LR", 31, 5)])
        for k in (1, 2, 3):
            self.assertEqual(len(group_keys(BOOK, self.ROWS, LEVELS, k)), [line[0] for line in told].count(f"L{k}"))

    def test_kinds_and_whose(self):
        kept = copy.deepcopy(self.ROWS)
        for asked in (lambda: grouped(BOOK, self.ROWS, LEVELS, "qty"), lambda: group_keys(BOOK, self.ROWS, LEVELS, 2)):
            told = asked()
            self.assertEqual((type(told), {type(thing) for thing in told}), (list, {tuple}))
            was = list(told)
            told.clear()
            self.assertEqual(asked(), was)
        self.assertEqual(self.ROWS, kept)

    def test_no_levels(self):
        self.assertEqual(grouped(BOOK, self.ROWS, (), "qty"), [("LR", 0, 0)])


if __name__ == "__main__":
    unittest.main()
