import unittest

from tests.things import number, odd_but, text
from totalround.errors import NoProgram
from totalround.programs import Program, cells, word_cells
from totalround.shapes import Shape
from totalround.sources import Source

SALE = Shape("sale", (1, "s"), (text("day", 2), number("qty", 5), text("month", 10), number("price", 20)))
VISIT = Shape("visit", (1, "v"), (number("length", 2), text("day", 30)))
ORDER = Shape("order", None, (number("price", 40), text("who", 2, 5), number("tax", 50)))
BOOK = Source("book", (SALE, VISIT))
DESK = Source("desk", (ORDER,))
SOURCES = (BOOK, DESK)

BOXES = ("sum", "count")
FLAGS = ("f", "g")
SUM = ((1, "sum"), (-999, "qty"), (7, ""))
DEEDS = (
    ("set", "sum", SUM),
    ("times", "count", "qty", "tax"),
    ("on", "f"),
    ("off", "g"),
    ("ask", "under", SUM, (), "g"),
    ("leave",),
)
PARTS = (("text", "total: "), ("number", "sum"), ("number", "qty"), ("words", "day"))


class ProgramCase(unittest.TestCase):
    def made(self, **parts):
        parts = {"levels": ("day", "month"), "boxes": BOXES, "flags": FLAGS, **parts}
        with self.subTest(parts=repr(parts)):
            program = Program(SOURCES, **parts)
            for name, part in parts.items():
                self.assertEqual(getattr(program, name), part)

    def refused(self, sources=SOURCES, **parts):
        parts = {"levels": ("day", "month"), "boxes": BOXES, "flags": FLAGS, **parts}
        self.refused_just(sources, **parts)

    def refused_just(self, *sources, **parts):
        with self.subTest(sources=repr(sources), parts=repr(parts)), self.assertRaises(NoProgram) as caught:
            Program(*sources, **parts)
        self.assertIs(type(caught.exception), NoProgram)

    def step(self, good, deed=("leave",), time="detail", conditions=()):
        (self.made if good else self.refused)(steps=((time, conditions, deed),))

    def line(self, good, parts=(), cleared=(), time="detail", conditions=()):
        (self.made if good else self.refused)(lines=((time, conditions, parts, cleared),))

    def condition(self, good, *conditions):
        self.step(good, conditions=conditions)
        self.line(good, conditions=conditions)


class Fields(ProgramCase):
    def test_they_are_kept(self):
        steps = tuple(("detail", (("sale", True),), deed) for deed in DEEDS)
        lines = (("total", (("L1", True), ("f", False)), PARTS, ("sum",)),)
        program = Program(SOURCES, levels=("day",), boxes=BOXES, flags=FLAGS, steps=steps, lines=lines)
        self.assertEqual((program.sources, program.levels, program.boxes), (SOURCES, ("day",), BOXES))
        self.assertEqual((program.flags, program.steps, program.lines), (FLAGS, steps, lines))

    def test_all_left_out_but_sources(self):
        program = Program((DESK,))
        self.assertEqual((program.levels, program.boxes, program.flags), ((), (), ()))
        self.assertEqual((program.sources, program.steps, program.lines), ((DESK,), (), ()))

    def test_by_name_alone(self):
        with self.assertRaises(TypeError):
            Program(SOURCES, ())
        with self.assertRaises(TypeError):
            Program()


class TheSources(ProgramCase):
    def test_none(self):
        five = tuple(Source(name, (Shape(name, None, ()),)) for name in "abcde")
        self.assertEqual(Program(five[:4]).sources, five[:4])
        for thing in odd_but() + [five, [BOOK], BOOK, (BOOK, BOOK), (BOOK, None), (BOOK, SALE)]:
            self.refused_just(thing)

    def test_lengths_that_are_not_alike(self):
        other = Source("desk", (Shape("order", None, (number("price", 40, 4),)),))
        self.refused_just((BOOK, other))

    def test_keys_that_are_not_alike(self):
        keyed = Source("book", (SALE,), by=("day",))
        self.refused_just((keyed, Source("desk", (ORDER,), by=("tax",))))

    def test_they_may_be_changed_later(self):
        source = Source("desk", (ORDER,), by=("tax",))
        program = Program((source,))
        source.name = "other"
        source.by = ()
        source.shapes[0].fields = ()
        self.assertEqual(program.sources, (Source("desk", (ORDER,), by=("tax",)),))
        self.assertEqual(cells(program), ["price", "tax"])


class Names(ProgramCase):
    def test_levels(self):
        for levels in ((), ("day",), ("month", "day"), ("who", "length", "day"), ("qty", "price", "tax")):
            self.made(levels=levels)
        self.refused(levels=("day", "month", "who", "tax"))
        for levels in (("day", "day"), ("day", "who", "day")):
            self.refused(levels=levels)
        for name in ("sale", "sum", "f", "book", "other", ""):
            self.refused(levels=(name,))

    def test_boxes_and_flags(self):
        for many in range(11):
            names = tuple("b" + letter for letter in "abcdefghij"[:many])
            (self.made if many <= 8 else self.refused)(boxes=names)
            (self.made if many <= 3 else self.refused)(flags=names)

    def test_names_that_are_none(self):
        for name in ("", "abcdefg", "A", "a1", "L1", "MR", " a", "a\n"):
            self.refused(boxes=(name,))
            self.refused(flags=(name,))
        for thing in odd_but(str):
            for names in ((thing,), ("b", thing)):
                self.refused(boxes=names)
                self.refused(flags=names)
                self.refused(levels=names)
            self.refused(levels=("day", thing))
        self.made(boxes=("abcdef",), flags=("ghijkl",))

    def test_no_tuples(self):
        for thing in odd_but(tuple) + [["day"], "day", {"day": 1}]:
            self.refused(levels=thing)
        for thing in odd_but(tuple) + [["b"], "b", {"b": 1}]:
            self.refused(boxes=thing)
            self.refused(flags=thing)

    def test_two_boxes_or_two_flags(self):
        self.refused(boxes=("a", "a"))
        self.refused(boxes=("a", "b", "a"))
        self.refused(flags=("a", "a"))
        self.refused(flags=("a", "b", "a"))

    def test_a_box_and_a_flag(self):
        self.refused(boxes=("a", "b"), flags=("c", "b"))

    def test_a_box_or_a_flag_like_a_shape_or_a_field(self):
        for name in ("sale", "visit", "order", "day", "qty", "month", "price", "length", "who", "tax"):
            self.refused(boxes=("a", name))
            self.refused(flags=("a", name))

    def test_a_shape_like_a_field(self):
        self.refused_just((Source("a", (Shape("a", None, (text("a", 1),)),)),))
        self.refused_just((Source("a", (Shape("b", None, (number("c", 1),)), Shape("c", (1, "x"), ()))),))
        self.refused_just((Source("a", (Shape("b", None, (text("c", 1),)),)), Source("d", (Shape("c", None, ()),))))
        self.refused_just((Source("a", (Shape("c", None, ()),)), Source("d", (Shape("b", None, (number("c", 1),)),))))

    def test_two_shapes_in_two_sources(self):
        self.refused_just((BOOK, Source("other", (SALE,))))
        self.refused_just((BOOK, DESK, Source("other", (Shape("note", None, ()), Shape("order", None, ())))))

    def test_two_shapes_in_one_source(self):
        source = Source("book", (SALE, VISIT))
        source.shapes = (SALE, SALE)
        self.refused_just((source,))

    def test_names_of_sources_are_apart(self):
        source = Source("a", (Shape("b", None, (text("c", 1),)),))
        for name in "bcde":
            source.name = name
            self.assertEqual(Program((source,), boxes=("d",), flags=("e",)).sources[0].name, name)
        self.made(boxes=("book",), flags=("desk",))

    def test_fields_of_one_name_in_many_shapes(self):
        shapes = tuple(Shape(name, None, (text("day", k + 1), number("qty", 20 + k))) for k, name in enumerate("abcd"))
        program = Program((Source("a", shapes[:2]), Source("b", shapes[2:])), levels=("day", "qty"))
        self.assertEqual((cells(program), word_cells(program)), (["qty"], ["day"]))


class Conditions(ProgramCase):
    def test_how_many(self):
        for many in range(6):
            self.condition(many <= 3, *(("f", True),) * many)
        self.condition(False, ("f", True), ("g", True), ("MR", True), ("LR", True))

    def test_each_indicator(self):
        for name in ("sale", "visit", "order", "MR", "LR", "f", "g", "L1", "L2"):
            self.condition(True, (name, True))
            self.condition(True, (name, False))

    def test_other_names(self):
        for name in ("L0", "L4", "L", "l", "LL", "mr", "lr", "M", "R", "", "book", "desk", "day", "qty", "sum", "other",
                     "Sale", "-f"):
            self.condition(False, (name, True))
        for thing in odd_but(str):
            self.condition(False, (thing, True))

    def test_levels_just_as_far_as_there_are_some(self):
        levels = ("day", "month", "qty")
        for many in range(4):
            for k in (1, 2, 3):
                asked = {"levels": levels[:many], "steps": (("total", ((f"L{k}", True),), ("leave",)),)}
                (self.made if k <= many else self.refused)(**asked)
                asked = {"levels": levels[:many], "lines": (("total", ((f"L{k}", True),), (), ()),)}
                (self.made if k <= many else self.refused)(**asked)

    def test_without_flags(self):
        for name in FLAGS:
            self.refused(flags=(), steps=(("detail", ((name, True),), ("leave",)),))

    def test_truths(self):
        for thing in odd_but(bool) + [1, 0, "True"]:
            self.condition(False, ("f", thing))

    def test_one_twice(self):
        self.condition(True, ("f", True), ("f", True))
        self.condition(True, ("f", True), ("f", False), ("f", True))

    def test_each_one_counts(self):
        for at in range(3):
            conditions = [("f", True), ("MR", False), ("L1", True)]
            conditions[at] = ("other", True)
            self.condition(False, *conditions)

    def test_no_pairs(self):
        for thing in odd_but() + [("f",), ("f", True, True), ["f", True], (True, "f"), "f"]:
            self.condition(False, thing)

    def test_no_tuples(self):
        for thing in odd_but(tuple) + [[("f", True)], ("f", True), {("f", True): 1}]:
            self.step(False, conditions=thing)
            self.line(False, conditions=thing)


class Steps(ProgramCase):
    def test_how_many(self):
        step = ("total", (), ("leave",))
        for many in (0, 1, 59, 60, 61, 62):
            (self.made if many <= 60 else self.refused)(steps=(step,) * many)

    def test_times(self):
        for time in ("total", "detail"):
            self.step(True, time=time)
        for time in ("", "Total", "totals", "last", "t"):
            self.step(False, time=time)
        for thing in odd_but(str):
            self.step(False, time=thing)

    def test_no_triples(self):
        for thing in odd_but() + [("total", ()), ("total", (), ("leave",), ()), ["total", (), ("leave",)]]:
            self.refused(steps=(thing,))
            self.refused(steps=(("total", (), ("leave",)), thing))

    def test_no_tuples(self):
        for thing in odd_but(tuple) + [[], [("total", (), ("leave",))], ("total", (), ("leave",))]:
            self.refused(steps=thing)

    def test_each_deed(self):
        for deed in DEEDS:
            self.step(True, deed)
            self.step(True, deed, time="total", conditions=(("LR", False),))

    def test_a_list_for_a_deed(self):
        for deed in DEEDS:
            self.step(False, list(deed))

    def test_too_few_and_too_many_places(self):
        for deed in DEEDS:
            self.step(False, deed[:-1])
            self.step(False, (*deed, deed[-1]))
            self.step(False, (*deed, None))

    def test_other_words(self):
        for deed in DEEDS:
            for word in ("", "Set", "put", deed[0] + " "):
                self.step(False, (word, *deed[1:]))
            for thing in odd_but(str):
                self.step(False, (thing, *deed[1:]))
            for other in DEEDS:
                if other[0] != deed[0] and {other[0], deed[0]} != {"on", "off"}:
                    self.step(False, (other[0], *deed[1:]))

    def test_each_place_otherwise(self):
        for deed in DEEDS:
            for at in range(1, len(deed)):
                for thing in odd_but(tuple) + ["other", ("a",), (1,), [*SUM], list(deed[at])]:
                    self.step(False, (*deed[:at], thing, *deed[at + 1:]))

    def test_other_things_for_deeds(self):
        for thing in odd_but() + ["leave", "on"]:
            self.step(False, thing)

    def test_boxes(self):
        for name in ("sum", "count"):
            self.step(True, ("set", name, ()))
            self.step(True, ("times", name, "qty", "qty"))
        for name in ("qty", "day", "f", "sale", "", "L1"):
            self.step(False, ("set", name, ()))
            self.step(False, ("times", name, "qty", "qty"))

    def test_cells(self):
        for name in ("qty", "price", "length", "tax"):
            self.step(True, ("times", "sum", name, "qty"))
            self.step(True, ("times", "sum", "qty", name))
        for name in ("sum", "day", "who", "f", "sale", "", "L1"):
            self.step(False, ("times", "sum", name, "qty"))
            self.step(False, ("times", "sum", "qty", name))

    def test_flags(self):
        for name in ("f", "g", "sum", "qty", "sale", "L1", "MR", "LR", ""):
            good = name in FLAGS
            self.step(good, ("on", name))
            self.step(good, ("off", name))
            self.step(good, ("ask", "same", (), (), name))

    def test_what_is_asked(self):
        for word in ("under", "same", "over"):
            self.step(True, ("ask", word, SUM, SUM, "f"))
        for word in ("", "below", "Under", "on", "f", "sum"):
            self.step(False, ("ask", word, SUM, SUM, "f"))


class Sums(ProgramCase):
    def each(self, good, terms):
        self.step(good, ("set", "sum", terms))
        self.step(good, ("ask", "over", terms, (), "f"))
        self.step(good, ("ask", "over", (), terms, "f"))

    def test_how_many_pairs(self):
        for many in range(9):
            self.each(many <= 6, ((1, "qty"),) * many)

    def test_numbers(self):
        for name, most in (("qty", 999), ("tax", 999), ("", 999), ("sum", 2), ("count", 2)):
            for k in (-most, 0, most):
                self.each(True, ((k, name),))
            for k in (-most - 1, most + 1):
                self.each(False, ((k, name),))
            self.each(False, ((True, name),))

    def test_names(self):
        for name in ("day", "who", "f", "sale", "book", "other", "L1"):
            self.each(False, ((1, name),))

    def test_a_name_twice(self):
        self.each(True, ((1, "qty"), (2, "qty"), (1, "sum"), (1, "sum"), (3, ""), (4, "")))

    def test_lists(self):
        self.each(False, [(1, "qty")])
        self.each(False, ([1, "qty"],))


class Lines(ProgramCase):
    def test_how_many(self):
        line = ("total", (), (), ())
        for many in (0, 1, 11, 12, 13, 14):
            (self.made if many <= 12 else self.refused)(lines=(line,) * many)

    def test_times(self):
        for time in ("total", "detail"):
            self.line(True, time=time)
        for time in odd_but() + ["Total", "totals", "last"]:
            self.line(False, time=time)

    def test_no_lines(self):
        line = ("total", (), PARTS, ("sum",))
        for thing in odd_but() + [line[:3], (*line, ()), list(line)]:
            self.refused(lines=(thing,))
            self.refused(lines=(line, thing))

    def test_no_tuples(self):
        for thing in odd_but(tuple) + [[], [("total", (), (), ())], ("total", (), (), ())]:
            self.refused(lines=thing)

    def test_how_many_parts(self):
        for part in PARTS:
            for many in range(11):
                self.line(many <= 8, parts=(part,) * many)

    def test_each_part_by_its_name(self):
        for name in ("qty", "price", "length", "tax", "sum", "count"):
            self.line(True, parts=(("number", name),))
            self.line(False, parts=(("words", name),))
        for name in ("day", "month", "who"):
            self.line(True, parts=(("words", name),))
            self.line(False, parts=(("number", name),))
        for name in ("f", "sale", "book", "L1", "MR", "", "other"):
            self.line(False, parts=(("words", name),))
            self.line(False, parts=(("number", name),))

    def test_texts(self):
        for signs in ("", " ", "a", "sum", "day", "~" * 20, " " * 20, " ~ 0Az\"'\\"):
            self.line(True, parts=(("text", signs),))
        for signs in ("a" * 21, " " * 21, "\n", "a\x7f", "\x1f", "\u00e9", "\ud800"):
            self.line(False, parts=(("text", signs),))
        for thing in odd_but(str):
            self.line(False, parts=(("text", thing),))

    def test_other_parts(self):
        for thing in odd_but() + ["text", ("text",), ("text", "a", "b"), ["text", "a"], ("word", "day"), ("", "a"),
                                  ("Text", "a"), (None, "a"), ("number",), ("number", "sum", "sum"),
                                  ("words", "day", 1)]:
            self.line(False, parts=(thing,))
            self.line(False, parts=(PARTS[0], thing, PARTS[1]))
        for thing in odd_but(str):
            for word in ("number", "words"):
                self.line(False, parts=((word, thing),))
            self.line(False, parts=((thing, "day"),))

    def test_parts_that_are_no_tuple(self):
        for thing in odd_but(tuple) + [[], [("text", "a")], ("text", "a"), {("text", "a"): 1}]:
            self.line(False, parts=thing)

    def test_how_many_cleared(self):
        for many in range(11):
            self.line(many <= 8, cleared=("sum",) * many)

    def test_cleared(self):
        self.line(True, cleared=("sum", "count", "sum"))
        for name in ("qty", "day", "f", "sale", "other", "", "SUM"):
            self.line(False, cleared=(name,))
            self.line(False, cleared=("sum", name))
        for thing in odd_but(str):
            self.line(False, cleared=(thing,))

    def test_cleared_that_are_no_tuple(self):
        for thing in odd_but(tuple) + [[], ["sum"], "sum", {"sum": 1}]:
            self.line(False, cleared=thing)

    def test_the_last_line_counts(self):
        good = ("total", (), PARTS, ())
        for at in range(3):
            lines = [good, good, good]
            lines[at] = ("total", (), PARTS, ("other",))
            self.refused(lines=tuple(lines))


class Equality(unittest.TestCase):
    PARTS = {
        "levels": ("day", "month"), "boxes": BOXES, "flags": FLAGS,
        "steps": tuple(("detail", (("f", True),), deed) for deed in DEEDS),
        "lines": (("total", (("L2", False),), PARTS, ("sum",)), ("detail", (), (), ())),
    }

    def test_equal_parts(self):
        book = Source("book", (Shape(SALE.name, SALE.mark, SALE.fields), VISIT))
        one, two = Program(SOURCES, **self.PARTS), Program((book, DESK), **self.PARTS)
        self.assertTrue(one == two)
        self.assertFalse(one != two)
        self.assertTrue(Program((DESK,)) == Program((DESK,), levels=(), boxes=(), flags=(), steps=(), lines=()))

    def test_other_parts(self):
        one = Program(SOURCES, **self.PARTS)
        more = Source("e", (Shape("e", None, ()),))
        others = [Program(SOURCES[::-1], **self.PARTS), Program((*SOURCES, more), **self.PARTS)]
        changed = {
            "levels": [("month", "day"), ("day", "who"), ("day", "month", "who")],
            "boxes": [BOXES[::-1], (*BOXES, "more")],
            "flags": [FLAGS[::-1], (*FLAGS, "more")],
            "steps": [(), self.PARTS["steps"][::-1], self.PARTS["steps"][1:],
                      (("total", (("f", True),), DEEDS[0]), *self.PARTS["steps"][1:]),
                      (("detail", (("f", False),), DEEDS[0]), *self.PARTS["steps"][1:])],
            "lines": [(), self.PARTS["lines"][::-1], (("total", (("L2", False),), PARTS, ()), self.PARTS["lines"][1])],
        }
        for name, parts in changed.items():
            others += [Program(SOURCES, **{**self.PARTS, name: part}) for part in parts]
        for other in others:
            self.assertFalse(one == other)
            self.assertTrue(one != other)

    def test_other_things(self):
        one = Program((DESK,))
        for thing in odd_but() + [(DESK,), DESK, ((DESK,), (), (), (), (), ())]:
            self.assertIs(one.__eq__(thing), False)


class Cells(unittest.TestCase):
    def test_in_order_and_once(self):
        program = Program(SOURCES)
        self.assertEqual(cells(program), ["qty", "price", "length", "tax"])
        self.assertEqual(word_cells(program), ["day", "month", "who"])
        program = Program(SOURCES[::-1], boxes=BOXES)
        self.assertEqual(cells(program), ["price", "tax", "qty", "length"])
        self.assertEqual(word_cells(program), ["who", "day", "month"])

    def test_the_order_of_shapes(self):
        program = Program((Source("book", (VISIT, SALE)),))
        self.assertEqual(cells(program), ["length", "qty", "price"])
        self.assertEqual(word_cells(program), ["day", "month"])

    def test_none(self):
        program = Program((Source("a", (Shape("s", None, ()),)),))
        self.assertEqual((cells(program), word_cells(program)), ([], []))

    def test_the_askers_own(self):
        program = Program(SOURCES)
        for asked in (cells, word_cells):
            told = asked(program)
            self.assertIs(type(told), list)
            kept = list(told)
            told.clear()
            self.assertEqual(asked(program), kept)


if __name__ == "__main__":
    unittest.main()
