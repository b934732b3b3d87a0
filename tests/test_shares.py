import copy
import itertools
import random
import unittest

from tests.plain import LAYOUTS, some_program, some_rows
from tests.things import number, odd_but, text, wide
from totalround.errors import NoEven, NoOrder, NoRecord, NoSource, TooLong
from totalround.programs import Program, cells
from totalround.records import laid
from totalround.rounds import run
from totalround.shapes import Shape
from totalround.shares import shared, shares
from totalround.sources import Source, cut_by

ITEM = Shape("item", (1, "i"), (text("day", 2), number("qty", 10), number("price", 20)))
NOTE = Shape("note", (1, "n"), (text("words", 2, 4), number("pages", 30), number("qty", 10)))
BOOK = (Source("book", (ITEM, NOTE)),)


def item(day="mo", qty=0, price=0):
    return laid(ITEM, {"day": day, "qty": qty, "price": price})


def note(words="", pages=0, qty=0):
    return laid(NOTE, {"words": words, "pages": pages, "qty": qty})


def book(*steps, lines=(), **parts):
    return Program(BOOK, boxes=("a", "b", "c"), flags=("f",), steps=tuple(steps), lines=tuple(lines), **parts)


def detail(box, *terms, when=()):
    return ("detail", when, ("set", box, terms))


def total(box, *terms, when=()):
    return ("total", when, ("set", box, terms))


def line(time, *parts, when=(), cleared=()):
    return (time, when, parts, cleared)


def n(name):
    return ("number", name)


class Shares(unittest.TestCase):
    def told(self, program, *records, expected):
        rows = {"book": list(records)}
        told = shares(program, rows)
        self.assertEqual(told, expected)
        self.assertEqual(shared(program.sources, rows, told), run(program, rows).pages)

    def test_no_line(self):
        self.told(book(), expected=[[]])
        self.told(book(detail("a", (1, "qty"))), item(), item(), expected=[[], [], []])

    def test_texts_and_words_themselves(self):
        program = book(lines=(line("detail", ("text", "sum"), ("words", "day"), ("text", ""), ("words", "words")),))
        self.told(program, item("tu"), note("abcd"),
                  expected=[[("sum", "tu", "", "")], [("sum", "tu", "", "abcd")], []])

    def test_a_line_without_parts(self):
        self.told(book(lines=(line("total"),)), expected=[[()]])

    def test_the_rest_without_cells(self):
        program = book(total("a", (5, ""), (-7, "")), total("b", (2, "a"), (1, "")), total("c"),
                       lines=(line("total", n("a"), n("b"), n("c")),))
        self.told(program, expected=[[((-2, ()), (-3, ()), (0, ()))]])

    def test_a_cell_itself(self):
        program = book(lines=(line("detail", n("qty")), line("total", n("qty"), n("price"))))
        self.told(program, item(qty=4), expected=[
            [((0, ((("book", 0, "qty"), 1),)),)],
            [((0, ((("book", 0, "qty"), 1),)), (0, ((("book", 0, "price"), 1),)))]])

    def test_noughts_ahead_are_nothings(self):
        program = book(total("a", (3, "qty"), (4, "pages"), (5, "")), lines=(line("total", n("a"), n("pages")),))
        self.told(program, expected=[[((5, ()), (0, ()))]])
        self.told(program, item(qty=2), expected=[[], [((5, ((("book", 0, "qty"), 3),)), (0, ()))]])

    def test_an_elder_record_moved_it(self):
        program = book(lines=(line("total", n("price"), n("qty")), line("detail", n("price"), n("qty"))))
        elder = (0, ((("book", 0, "price"), 1),))
        self.told(program, item(price=3, qty=1), note(qty=2), expected=[
            [(elder, (0, ((("book", 0, "qty"), 1),)))],
            [(elder, (0, ((("book", 0, "qty"), 1),))), (elder, (0, ((("book", 1, "qty"), 1),)))],
            [(elder, (0, ((("book", 1, "qty"), 1),)))]])

    def test_a_record_counts_several_times(self):
        program = book(detail("a", (2, "a"), (3, "qty")), lines=(line("total", n("a"), when=(("LR", True),)),))
        self.told(program, item(), item(), item(), expected=[[], [], [], [
            ((0, ((("book", 0, "qty"), 12), (("book", 1, "qty"), 6), (("book", 2, "qty"), 3))),)]])

    def test_below_0(self):
        program = book(detail("a", (-2, "qty"), (-999, "price")), lines=(line("detail", n("a")),))
        self.told(program, item(qty=4, price=2), expected=[
            [((0, ((("book", 0, "qty"), -2), (("book", 0, "price"), -999))),)], []])

    def test_what_comes_to_0_is_left_out(self):
        program = book(detail("a", (2, "qty"), (1, "price"), (-2, "qty")), detail("b", (1, "a"), (-1, "price")),
                       lines=(line("detail", n("a"), n("b")),))
        self.told(program, item(qty=4, price=2), expected=[[((0, ((("book", 0, "price"), 1),)), (0, ()))], []])

    def test_a_number_that_is_0_is_not_left_out(self):
        program = book(detail("a", (1, "qty")), lines=(line("detail", n("a")),))
        self.told(program, item(qty=0), expected=[[((0, ((("book", 0, "qty"), 1),)),)], []])

    def test_a_number_0_ahead(self):
        program = book(detail("a", (0, "qty"), (0, "")), lines=(line("detail", n("a")),))
        self.told(program, item(qty=8), expected=[[((0, ()),)], []])

    def test_boxes_through_boxes(self):
        program = book(detail("b", (1, "a"), (10, "")), detail("a", (1, "qty"), (1, "")), detail("c", (2, "a"), (-1, "b")),
                       lines=(line("detail", n("c")),))
        self.told(program, item(), item(), expected=[
            [((-8, ((("book", 0, "qty"), 2),)),)],
            [((-9, ((("book", 0, "qty"), -1), (("book", 1, "qty"), 2))),)], []])

    def test_cleared_boxes(self):
        program = book(detail("a", (1, "a"), (1, "qty"), (1, "")), lines=(
            line("detail", n("a"), when=(("note", True),), cleared=("a", "a")), line("total", n("a"), when=(("LR", True),))))
        self.told(program, item(), note(), item(), expected=[
            [], [((2, ((("book", 0, "qty"), 1), (("book", 1, "qty"), 1))),)], [], [((1, ((("book", 2, "qty"), 1),)),)]])

    def test_a_step_that_is_not_done(self):
        program = book(detail("a", (1, "a"), (1, "qty"), when=(("note", True),)), ("detail", (), ("leave",)),
                       detail("a"), lines=(line("total", n("a")),))
        self.told(program, item(), note(), expected=[[], [((0, ()),)], [((0, ((("book", 1, "qty"), 1),)),)]])

    def test_an_ask_does_not_count(self):
        program = book(detail("a", (1, "a"), (1, "qty"), when=(("f", False),)),
                       ("detail", (), ("ask", "over", ((1, "a"),), ((5, ""),), "f")),
                       lines=(line("total", n("a"), when=(("LR", True),)),))
        self.told(program, item(qty=3), item(qty=4), item(qty=5), expected=[[], [], [], [
            ((0, ((("book", 0, "qty"), 1), (("book", 1, "qty"), 1))),)]])

    def test_the_order_of_reading_and_of_cells(self):
        one = Source("one", (Shape("s", None, (number("x", 1), number("m", 5), number("k", 9))),), by=("x",))
        two = Source("two", (Shape("t", None, (number("y", 1), number("l", 5), number("m", 9))),), by=("y",))
        terms = ((1, "m"), (1, "l"), (1, "k"))
        program = Program((two, one), boxes=("a",), steps=(
            ("detail", (("s", True),), ("set", "a", ((1, "a"), (1, "k"), (1, "m")))),
            ("detail", (("t", True),), ("set", "a", ((1, "a"), *terms)))), lines=(("total", (("LR", True),), (n("a"),), ()),))
        self.assertEqual(cells(program), ["y", "l", "m", "x", "k"])
        rows = {"one": [wide("  1"), wide("  4")], "two": [wide("  2"), wide("  3")]}
        self.assertEqual(shares(program, rows)[-1], [((0, (
            (("one", 0, "m"), 1), (("one", 0, "k"), 3), (("two", 0, "l"), 1), (("two", 0, "m"), 1),
            (("two", 1, "l"), 1), (("two", 1, "m"), 1), (("one", 1, "m"), 1), (("one", 1, "k"), 1))),)])

    def test_kinds_of_things(self):
        told = shares(book(detail("a", (1, "qty")), lines=(line("detail", n("a"), ("text", "x")),)), {"book": [item()]})
        self.assertEqual([type(thing) for thing in (told, told[0], told[0][0], told[0][0][0], told[0][0][0][1],
                                                    told[0][0][0][1][0])], [list, list, tuple, tuple, tuple, tuple])

    def test_what_is_told_is_the_asker_s_own(self):
        program, rows = book(lines=(line("detail", n("qty")),)), {"book": [item(qty=1), item()]}
        told = shares(program, rows)
        kept, given = copy.deepcopy(told), copy.deepcopy(rows)
        told[0].clear()
        told.pop()
        self.assertEqual(shares(program, rows), kept)
        self.assertEqual(rows, given)


class RefusedShares(unittest.TestCase):
    def test_times(self):
        for steps in ((("total", (), ("times", "a", "qty", "qty")),),
                      (detail("a"), ("detail", (("f", True), ("f", False)), ("times", "b", "qty", "price")))):
            for rows in ({}, {"book": [item()]}, {"book": [None]}, {"book": [item()] * 4000}):
                with self.assertRaises(NoEven) as caught:
                    shares(book(*steps, lines=(line("detail"),)), rows)
                self.assertIs(type(caught.exception), NoEven)

    def test_as_run(self):
        with self.assertRaises(NoRecord) as caught:
            shares(book(), {"book": [item(), wide("n".ljust(29) + "x")]})
        self.assertEqual(caught.exception.name, "book/pages")
        keyed = Program((Source("book", (ITEM, NOTE), by=("qty",)),))
        with self.assertRaises(NoOrder) as caught:
            shares(keyed, {"book": [item(qty=3), note(qty=2)]})
        self.assertEqual((caught.exception.name, caught.exception.at), ("book", 1))

    def test_too_long(self):
        program = book(lines=(line("detail"),))
        self.assertEqual(shares(program, {"book": [item()] * 3000}), [[()]] * 3000 + [[]])
        with self.assertRaises(TooLong):
            shares(program, {"book": [item()] * 3001})


class Shared(unittest.TestCase):
    ROWS = {"book": [item("mo", 3, 4), note("abcd", 7, 9)]}

    def test_each_kind_of_part(self):
        told = [[("sum", "", (5, ()), (0, ((("book", 0, "qty"), 2), (("book", 1, "pages"), -1))))], [], [(), ("x",)]]
        kept = copy.deepcopy(told)
        pages = shared(BOOK, self.ROWS, told)
        self.assertEqual(pages, [[("sum", "", 5, -1)], [], [(), ("x",)]])
        pages[0].clear()
        self.assertEqual(told, kept)
        self.assertEqual(shared(BOOK, self.ROWS, []), [])

    def refused(self, name, told, rows=None, sources=BOOK):
        with self.subTest(told=told), self.assertRaises(NoRecord) as caught:
            shared(sources, self.ROWS if rows is None else rows, told)
        self.assertIs(type(caught.exception), NoRecord)
        self.assertEqual(caught.exception.name, name)

    @staticmethod
    def of(*some):
        return [[((0, some),)]]

    def test_a_record_that_is_not_there(self):
        self.refused("book/", self.of((("book", 2, "qty"), 1)))
        self.refused("book/", self.of((("book", 99, "nosuch"), 1)))
        self.refused("book/", self.of((("book", -1, "qty"), 1)))
        self.refused("other/", self.of((("other", 0, "qty"), 1)))
        self.refused("/", self.of((("", 0, "qty"), 1)))
        self.refused("book/", self.of((("book", 0, "qty"), 1)), rows={})
        self.refused("book/", self.of((("book", 0, "qty"), 1)), rows={"other": [item()]})

    def test_a_field_that_is_none_or_a_text(self):
        self.refused("book/pages", self.of((("book", 0, "pages"), 1)))
        self.refused("book/day", self.of((("book", 0, "day"), 1)))
        self.refused("book/price", self.of((("book", 1, "price"), 1)))
        self.refused("book/nosuch", self.of((("book", 1, "nosuch"), 1)))
        self.refused("book/", self.of((("book", 1, ""), 1)))
        self.refused("book/item", self.of((("book", 0, "item"), 1)))

    def test_also_so_many_times_0(self):
        self.refused("book/pages", self.of((("book", 0, "pages"), 0)))

    def test_the_first_share(self):
        good, gone, lacks = (("book", 0, "qty"), 1), (("zz", 0, "qty"), 1), (("book", 0, "pages"), 1)
        self.refused("zz/", self.of(good, gone, lacks))
        self.refused("book/pages", self.of(good, lacks, gone))
        self.refused("zz/", [[((0, (good,)), (0, (gone,)), (0, (lacks,)))]])
        self.refused("book/pages", [[("t", (0, (lacks,))), ((0, (gone,)),)]])
        self.refused("zz/", [[], [((0, (good,)),)], [((0, (gone,)),)], [((0, (lacks,)),)]])

    def test_records_go_ahead_of_shares(self):
        gone = self.of((("zz", 0, "qty"), 1))
        self.refused("book/", gone, rows={"book": [item(), None]})
        self.refused("book/", [], rows={"book": [wide("x")]})
        self.refused("book/price", gone, rows={"book": [item(), wide("i".ljust(19) + "x")]})
        two = (*BOOK, Source("two", (Shape("s", None, (number("x", 1),)),)))
        self.refused("two/x", gone, rows={"book": [item()], "two": [wide("y")]}, sources=two)
        self.refused("book/", gone, rows={"book": [None], "two": [wide("y")]}, sources=two)

    def test_sources_go_ahead_of_all(self):
        for sources in odd_but() + [list(BOOK), BOOK[0], BOOK * 2]:
            for told in ([], self.of((("zz", 0, "qty"), 1))):
                for rows in ({}, {"book": [None]}):
                    with self.assertRaises(NoSource) as caught:
                        shared(sources, rows, told)
                    self.assertIs(type(caught.exception), NoSource)

    def test_keys_are_not_looked_at(self):
        sources = (Source("book", (ITEM, NOTE), by=("qty",)),)
        rows = {"book": [item(qty=3), item(qty=1)]}
        self.assertEqual(shared(sources, rows, self.of((("book", 0, "qty"), 1), (("book", 1, "qty"), 2))), [[(5,)]])
        self.refused("book/", [], rows={"book": [item(qty=3), item(qty=1), None]}, sources=sources)


class OtherNumbers(unittest.TestCase):
    """What was told with some records holds with others, as far as nothing is asked, matched, ordered or broken."""

    def changed(self, rng, sources, rows, free):
        """Rows with other numbers in the free fields."""
        told = {}
        for source in sources:
            told[source.name] = []
            for record in rows[source.name]:
                called, worths = cut_by(source, record)
                shape = next(shape for shape in source.shapes if shape.name == called)
                told[source.name].append(laid(shape, {
                    name: rng.randint(-99, 999) if name in free else worth for name, worth in worths.items()}))
        return told

    def test_programs_of_all_kinds(self):
        parted = 0
        for seed in range(200):
            rng = random.Random(seed)
            layout = LAYOUTS[seed % len(LAYOUTS)]
            words = ("set", "set", "set", "on", "off", "leave") + (("ask",) if seed % 2 else ())
            program, rows = some_program(rng, layout, words=words), some_rows(rng, layout[0], 5)
            asked = {name for step in program.steps if step[2][0] == "ask"
                     for _, name in itertools.chain(step[2][2], step[2][3])}
            # A box that is asked may hold any cell.
            free = set() if asked & set(program.boxes) else set(cells(program)) - asked - set(program.levels)
            free -= {key for source in program.sources for key in source.by}
            told = shares(program, rows)
            others = self.changed(rng, program.sources, rows, free)
            with self.subTest(seed=seed):
                self.assertEqual(shared(program.sources, rows, told), run(program, rows).pages)
                self.assertEqual(shared(program.sources, others, told), run(program, others).pages)
                self.assertEqual(shares(program, others), told)
            parted += run(program, others).pages != run(program, rows).pages
        self.assertGreater(parted, 50)


if __name__ == "__main__":
    unittest.main()
