import copy
import random
import unittest

from tests.plain import LAYOUTS, plain_run, some_program, some_rows
from tests.things import number, odd_but, text, wide
from totalround.errors import NoOrder, NoRecord, TooLong
from totalround.programs import Program
from totalround.records import laid
from totalround.rounds import Ran, run, trace
from totalround.shapes import Shape
from totalround.sources import Source

SALE = Shape("sale", (1, "s"), (text("day", 2), text("month", 4), number("qty", 10), number("price", 20)))
VISIT = Shape("visit", (1, "v"), (text("who", 30, 5), number("far", 40)))
GONE = Shape("gone", (1, "g"), (text("never", 2), number("nought", 10)))
BOOK = (Source("book", (SALE, VISIT, GONE)),)
LEVELS = ("day", "month")


def sale(day="mo", month="ja", qty=0, price=0):
    return laid(SALE, {"day": day, "month": month, "qty": qty, "price": price})


def visit(who="", far=0):
    return laid(VISIT, {"who": who, "far": far})


def book(**parts):
    """A program over the book alone."""
    given = {"levels": LEVELS, "boxes": ("a", "b", "c"), "flags": ("f", "g", "h"), **parts}
    return Program(BOOK, **given)


def told(program, *records):
    return run(program, {"book": list(records)}).pages


def line(time, *parts, when=(), cleared=()):
    """A line of texts, "" ahead of a cell's or box's name, "w:" ahead of a word cell's."""
    made = []
    for part in parts:
        if part.startswith("w:"):
            made.append(("words", part[2:]))
        elif part.startswith("n:"):
            made.append(("number", part[2:]))
        else:
            made.append(("text", part))
    return (time, when, tuple(made), cleared)


def indicator_lines(names):
    """At both times a line for each of these indicators while it is on, and one while it is off."""
    lines = []
    for time in ("total", "detail"):
        for name in names:
            lines.append(line(time, time, name, when=((name, True),)))
    return tuple(lines)


class Rounds(unittest.TestCase):
    def test_no_record(self):
        both = book(lines=(line("total", "t", "n:a", "n:qty", "w:day"), line("detail", "d")))
        for rows in ({}, {"book": []}, {"other": [sale()]}):
            self.assertEqual(run(both, rows).pages, [[("t", 0, 0, "")]])

    def test_one_record(self):
        both = book(lines=(line("total", "t", "n:qty", "w:day"), line("detail", "d", "n:qty", "w:day")))
        self.assertEqual(told(both, sale("mo", "ja", 7)), [[("d", 7, "mo")], [("t", 7, "mo")]])

    def test_total_time_has_the_elder_cells(self):
        both = book(lines=(line("detail", "d", "n:qty", "w:day"), line("total", "t", "n:qty", "w:day")))
        self.assertEqual(told(both, sale("mo", "ja", 1), sale("tu", "ja", 2), sale("we", "ja", 3)), [
            [("d", 1, "mo")], [("t", 1, "mo"), ("d", 2, "tu")], [("t", 2, "tu"), ("d", 3, "we")], [("t", 3, "we")]])

    def test_cells_of_other_shapes_stay(self):
        program = book(lines=(line("total", "t", "n:qty", "n:far", "w:who"), line("detail", "n:qty", "n:far", "w:who")))
        self.assertEqual(told(program, sale(qty=1), visit("me", 5), sale(qty=2)), [
            [(1, 0, "")], [("t", 1, 0, ""), (1, 5, "me   ")], [("t", 1, 5, "me   "), (2, 5, "me   ")],
            [("t", 2, 5, "me   ")]])

    def test_cells_whose_shape_never_comes(self):
        program = book(lines=(line("total", "n:nought", "w:never"), line("detail", "n:nought", "w:never")))
        self.assertEqual(told(program, sale(), visit()), [[(0, "")], [(0, ""), (0, "")], [(0, "")]])

    def test_fields_of_one_name_are_one_cell(self):
        other = Shape("other", (1, "o"), (number("qty", 50), text("day", 2)))
        program = Program((Source("book", (SALE, other)),), lines=(line("detail", "n:qty", "w:day", "n:price"),))
        rows = {"book": [sale("mo", "ja", 1, 8), laid(other, {"qty": 2, "day": "tu"}), sale("we", "ja", 3, 9)]}
        self.assertEqual(run(program, rows).pages, [[(1, "mo", 8)], [(2, "tu", 8)], [(3, "we", 9)], []])

    def test_several_sources(self):
        one = Source("one", (Shape("s", None, (number("x", 1), number("q", 5))),), by=("x",))
        two = Source("two", (Shape("t", None, (number("y", 1), number("r", 5))),), by=("y",))
        program = Program((one, two), lines=(
            line("detail", "m", "n:x", "n:y", "n:q", "n:r", when=(("MR", True),)),
            line("detail", "-", "n:x", "n:y", when=(("MR", False),)),
            line("total", "M", when=(("MR", True),)), line("total", "l", when=(("LR", True),))))
        rows = {"one": [wide("  1   5"), wide("  3   6")], "two": [wide("  2   7"), wide("  3   8"), wide("  3   9")]}
        self.assertEqual(run(program, rows).pages, [
            [("-", 1, 0)], [("-", 1, 2)], [("M",), ("m", 3, 2, 6, 7)], [("M",), ("m", 3, 3, 6, 8)],
            [("M",), ("m", 3, 3, 6, 9)], [("l",)]])


class Indicators(unittest.TestCase):
    def of_each_round(self, *records, levels=LEVELS):
        """For each round which indicators are on at total time and at detail time."""
        names = ["sale", "visit", "gone", "MR", "LR", *["L1", "L2", "L3"][:len(levels)]]
        on = {}
        for name in names:
            lines = indicator_lines((name,)) + (line("total", "no", name, when=((name, False),)),)
            for at, page in enumerate(told(book(levels=levels, lines=lines), *records)):
                for word, indicator in page:
                    on.setdefault((at, word), []).append(indicator)
        rounds = []
        for at in range(len(records) + 1):
            # Each indicator is either on or off at total time.
            if at:
                self.assertEqual(sorted(on.get((at, "total"), []) + on.get((at, "no"), [])), sorted(names))
            rounds.append((on.get((at, "total"), []), on.get((at, "detail"), [])))
        return rounds

    def test_a_shape_and_levels(self):
        self.assertEqual(self.of_each_round(sale("mo", "ja"), sale("mo", "ja"), sale("tu", "ja"), sale("tu", "fe")), [
            ([], ["sale", "L1", "L2"]), (["sale"], ["sale"]), (["sale", "L1"], ["sale", "L1"]),
            (["sale", "L1", "L2"], ["sale", "L1", "L2"]), (["LR", "L1", "L2"], [])])

    def test_a_record_of_no_levelled_shape(self):
        self.assertEqual(self.of_each_round(visit(), sale(), visit(), sale()), [
            ([], ["visit"]), (["sale", "L1", "L2"], ["sale", "L1", "L2"]), (["visit"], ["visit"]), (["sale"], ["sale"]),
            (["LR", "L1", "L2"], [])])

    def test_no_levels(self):
        self.assertEqual(self.of_each_round(sale(), levels=()), [([], ["sale"]), (["LR"], [])])

    def test_the_last_round_alone(self):
        self.assertEqual(self.of_each_round(levels=("day", "month", "qty")), [(["LR", "L1", "L2", "L3"], [])])

    def test_matching(self):
        shape = Shape("s", None, (number("x", 1),))
        sources = (Source("one", (shape,), by=("x",)),
                   Source("two", (Shape("t", (9, "t"), (number("y", 1),)), Shape("loose", None, ())), by=("y",)))
        program = Program(sources, lines=indicator_lines(("MR", "s", "t", "loose", "LR")))
        rows = {"one": [wide("  1"), wide("  2")], "two": [wide("  2     t"), wide("")]}
        self.assertEqual(run(program, rows).pages, [
            [("detail", "s")], [("total", "MR"), ("total", "s"), ("detail", "MR"), ("detail", "s")],
            [("total", "MR"), ("total", "t"), ("detail", "MR"), ("detail", "t")],
            [("total", "loose"), ("detail", "loose")], [("total", "LR")]])


class Steps(unittest.TestCase):
    def ended(self, *steps, records=(), **parts):
        """What boxes and flags hold behind a run with these steps."""
        ran = run(book(steps=tuple(steps), **parts), {"book": list(records)})
        self.assertEqual((list(ran.boxes), list(ran.flags)), (["a", "b", "c"], ["f", "g", "h"]))
        self.assertEqual({type(worth) for worth in ran.boxes.values()}, {int})
        self.assertEqual({type(worth) for worth in ran.flags.values()}, {bool})
        return list(ran.boxes.values()), [flag for flag, is_on in ran.flags.items() if is_on]

    def test_set(self):
        steps = (("total", (), ("set", "a", ((5, ""), (2, "qty"), (-3, "price"), (1, "qty")))),
                 ("total", (), ("set", "b", ((2, "a"), (-1, "")))),
                 ("total", (), ("set", "c", ())))
        self.assertEqual(self.ended(*steps, records=(sale(qty=7, price=4),)), ([14, 27, 0], []))

    def test_set_to_a_sum_of_itself(self):
        step = ("detail", (), ("set", "a", ((2, "a"), (1, ""))))
        self.assertEqual(self.ended(step, records=[sale()] * 4), ([15, 0, 0], []))
        self.assertEqual(self.ended(step, step, records=[sale()]), ([3, 0, 0], []))

    def test_set_to_nothing(self):
        steps = (("total", (), ("set", "a", ((9, ""),))), ("total", (), ("set", "b", ((1, "a"),))),
                 ("total", (), ("set", "a", ())))
        self.assertEqual(self.ended(*steps), ([0, 9, 0], []))

    def test_times(self):
        steps = (("total", (), ("times", "a", "qty", "price")), ("total", (), ("times", "b", "qty", "qty")),
                 ("total", (), ("times", "c", "far", "qty")))
        self.assertEqual(self.ended(*steps, records=(sale(qty=-7, price=12),)), ([-84, 49, 0], []))

    def test_steps_in_order(self):
        steps = (("total", (), ("set", "a", ((1, ""),))), ("total", (), ("set", "b", ((1, "a"),))),
                 ("total", (), ("set", "a", ((2, ""),))), ("total", (), ("set", "c", ((1, "a"), (1, "b")))))
        self.assertEqual(self.ended(*steps), ([2, 1, 3], []))

    def test_on_and_off(self):
        self.assertEqual(self.ended(("total", (), ("on", "g"))), ([0, 0, 0], ["g"]))
        self.assertEqual(self.ended(("total", (), ("on", "g")), ("total", (), ("on", "h")), ("total", (), ("off", "g"))),
                         ([0, 0, 0], ["h"]))
        self.assertEqual(self.ended(("total", (), ("off", "f"))), ([0, 0, 0], []))
        self.assertEqual(self.ended(("total", (), ("on", "f")), ("total", (), ("on", "f"))), ([0, 0, 0], ["f"]))

    def test_ask(self):
        for one, other, words in ((4, 5, ["under"]), (5, 5, ["same"]), (6, 5, ["over"]), (-1, 0, ["under"])):
            for word in ("under", "same", "over"):
                for ahead in ("on", "off"):
                    ask = ("ask", word, ((one, ""), (1, "a")), ((other, ""), (1, "a")), "f")
                    on = self.ended(("total", (), (ahead, "f")), ("total", (), ask))[1]
                    self.assertEqual(on, ["f"] if word in words else [], (one, word, other, ahead))

    def test_ask_of_sums(self):
        ask = ("detail", (), ("ask", "over", ((1, "qty"), (1, "price")), ((10, ""),), "g"))
        for qty, on in ((5, []), (6, ["g"])):
            self.assertEqual(self.ended(ask, records=[sale(qty=qty, price=5)])[1], on)
        empty = ("total", (), ("ask", "same", (), (), "h"))
        self.assertEqual(self.ended(empty)[1], ["h"])

    def test_conditions(self):
        def done(*conditions, records=(sale(),)):
            flags = ("total", (), ("on", "f"))
            step = ("total", tuple(conditions), ("set", "a", ((1, ""),)))
            return self.ended(flags, step, records=records)[0][0] == 1
        self.assertTrue(done())
        self.assertTrue(done(("f", True)))
        self.assertFalse(done(("f", False)))
        self.assertTrue(done(("g", False)))
        self.assertFalse(done(("g", True)))
        self.assertTrue(done(("f", True), ("g", False), ("LR", True)))
        for at in range(3):
            conditions = [("f", True), ("g", False), ("LR", True)]
            conditions[at] = (conditions[at][0], not conditions[at][1])
            self.assertFalse(done(*conditions))
        self.assertTrue(done(("f", True), ("f", True)))
        self.assertFalse(done(("f", True), ("f", False)))
        self.assertFalse(done(("g", True), ("g", False)))

    def test_a_condition_is_asked_when_its_step_is_come_to(self):
        turn = ("total", (("f", False),), ("on", "f"))
        back = ("total", (("f", True),), ("off", "f"))
        self.assertEqual(self.ended(turn)[1], ["f"])
        self.assertEqual(self.ended(turn, back)[1], [])
        self.assertEqual(self.ended(turn, back, turn)[1], ["f"])
        self.assertEqual(self.ended(back, turn)[1], ["f"])

    def test_a_flag_for_a_line(self):
        steps = (("detail", (), ("on", "f")), ("total", (), ("off", "f")))
        lines = (line("detail", "d", when=(("f", True),)), line("total", "t", when=(("f", True),)),
                 line("total", "off", when=(("f", False),)))
        self.assertEqual(told(book(steps=steps, lines=lines), sale(), sale()), [[("d",)], [("off",), ("d",)], [("off",)]])

    def test_a_flag_for_the_next_round(self):
        steps = (("detail", (("f", True),), ("set", "a", ((1, "a"), (1, "")))), ("detail", (), ("on", "f")))
        self.assertEqual(self.ended(*steps, records=[sale()]), ([0, 0, 0], ["f"]))
        self.assertEqual(self.ended(*steps, records=[sale()] * 3), ([2, 0, 0], ["f"]))

    def test_boxes_stay_from_round_to_round(self):
        steps = (("detail", (("sale", True),), ("set", "a", ((1, "a"), (1, "qty")))),
                 ("total", (("LR", True),), ("set", "b", ((2, "a"),))))
        records = [sale(qty=1), visit(), sale(qty=10), visit(), visit()]
        self.assertEqual(self.ended(*steps, records=records), ([11, 22, 0], []))

    def test_a_total_step_is_not_done_in_the_first_round(self):
        steps = (("total", (), ("set", "a", ((1, "a"), (1, "")))), ("detail", (), ("set", "b", ((1, "b"), (1, "")))))
        for many in range(4):
            self.assertEqual(self.ended(*steps, records=[sale()] * many)[0], [max(1, many), many, 0])


class Leaves(unittest.TestCase):
    def test_steps_of_that_time_only(self):
        def add(time, box):
            return (time, (), ("set", box, ((1, box), (1, ""))))
        steps = (add("detail", "a"), ("detail", (("f", True),), ("leave",)), add("detail", "b"), add("total", "c"),
                 ("total", (), ("on", "f")), ("total", (), ("leave",)), ("total", (), ("off", "f")), add("total", "a"))
        program = book(steps=steps)
        # In the first round there is no total time, so the flag is on from the second on.
        for many in range(5):
            boxes = run(program, {"book": [sale()] * many}).boxes
            self.assertEqual(boxes, {"a": many, "b": min(many, 1), "c": max(many, 1)})

    def test_lines_go_on(self):
        lines = (line("detail", "d"), line("total", "t"))
        for time in ("detail", "total"):
            program = book(steps=((time, (), ("leave",)),), lines=lines)
            self.assertEqual(told(program, sale(), sale()), [[("d",)], [("t",), ("d",)], [("t",)]])

    def test_names_like_words(self):
        program = Program(BOOK, boxes=("set", "text"), flags=("leave", "on", "off"), steps=(
            ("total", (), ("on", "leave")), ("total", (), ("on", "off")), ("total", (), ("off", "on")),
            ("total", (), ("set", "set", ((4, ""),))), ("total", (("leave", True),), ("set", "text", ((1, "set"), (1, ""))))),
            lines=(line("total", "n:set", "set", "n:text"),))
        ran = run(program, {})
        self.assertEqual(ran.pages, [[(4, "set", 5)]])
        self.assertEqual(ran.flags, {"leave": True, "on": False, "off": True})

    def test_one_whose_conditions_do_not_hold(self):
        steps = (("total", (("g", True),), ("leave",)), ("total", (), ("set", "a", ((1, ""),))))
        self.assertEqual(run(book(steps=steps), {}).boxes["a"], 1)


class Lines(unittest.TestCase):
    def test_the_parts(self):
        parts = line("detail", "t", "", " ~", "n:qty", "n:a", "w:day", "w:who", "qty")
        self.assertEqual(told(book(lines=(parts,)), sale("mo", qty=-3)), [[("t", "", " ~", -3, 0, "mo", "", "qty")], []])

    def test_without_parts(self):
        self.assertEqual(told(book(lines=(("total", (), (), ()), ("detail", (), (), ())))), [[()]])
        self.assertEqual(told(book(lines=(("detail", (), (), ()),)), sale()), [[()], []])

    def test_pages_of_each_round(self):
        program = book(lines=(line("detail", "v", when=(("visit", True),)),))
        self.assertEqual(told(program, sale(), visit(), sale()), [[], [("v",)], [], []])
        self.assertEqual(told(book(), sale(), visit()), [[], [], []])

    def test_in_order(self):
        lines = (line("total", "1"), line("detail", "2"), line("total", "3"), line("detail", "4"))
        self.assertEqual(told(book(lines=lines), sale(), sale()), [
            [("2",), ("4",)], [("1",), ("3",), ("2",), ("4",)], [("1",), ("3",)]])

    def cleared(self, *lines):
        steps = (("total", (), ("set", "a", ((5, ""),))), ("total", (), ("set", "b", ((6, ""),))))
        ran = run(book(steps=steps, lines=tuple(lines)), {})
        return ran.pages[0], ran.boxes

    def test_cleared_behind_the_line(self):
        first = line("total", "n:a", "n:b", cleared=("a",))
        self.assertEqual(self.cleared(first, line("total", "n:a", "n:b")),
                         ([(5, 6), (0, 6)], {"a": 0, "b": 6, "c": 0}))
        self.assertEqual(self.cleared(line("total", "n:a", cleared=("b", "a", "b")), line("total", "n:b", "n:a")),
                         ([(5,), (0, 0)], {"a": 0, "b": 0, "c": 0}))

    def test_a_line_that_is_not_told_clears_nothing(self):
        off = line("total", "n:a", when=(("LR", False),), cleared=("a", "b"))
        self.assertEqual(self.cleared(off), ([], {"a": 5, "b": 6, "c": 0}))

    def test_conditions_are_asked_when_the_line_is_come_to(self):
        # Lines turn no indicator on or off, so all of a time see the same.
        lines = [line("detail", str(k), when=conditions) for k, conditions in enumerate(
            ((), (("sale", True), ("visit", False)), (("sale", True), ("sale", False)), (("L2", True),), (("LR", True),)))]
        self.assertEqual(told(book(lines=tuple(lines)), sale(), sale(), visit()),
                         [[("0",), ("1",), ("3",)], [("0",), ("1",)], [("0",)], []])


class Runs(unittest.TestCase):
    def program(self):
        return Program(BOOK, boxes=("z", "b"), flags=("w", "c"), steps=(
            ("detail", (), ("set", "b", ((1, "b"), (1, "qty")))), ("detail", (("sale", True),), ("on", "c"))),
            lines=(line("detail", "n:b"),))

    def test_fields(self):
        ran = run(self.program(), {"book": [sale(qty=4)]})
        self.assertIs(type(ran), Ran)
        self.assertEqual(ran.pages, [[(4,)], []])
        self.assertEqual(list(ran.boxes.items()), [("z", 0), ("b", 4)])
        self.assertEqual(list(ran.flags.items()), [("w", False), ("c", True)])

    def test_what_is_told_is_the_asker_s_own(self):
        rows = {"book": [sale(qty=4), sale(qty=5)]}
        program, kept = self.program(), copy.deepcopy(rows)
        ran, moments = run(program, rows), trace(program, rows)
        pages, boxes, flags, listed = copy.deepcopy((ran.pages, ran.boxes, ran.flags, moments))
        ran.pages[0].clear()
        ran.pages.pop()
        ran.boxes["b"] = ran.flags["c"] = None
        moments.clear()
        again = run(program, rows)
        self.assertEqual((again.pages, again.boxes, again.flags), (pages, boxes, flags))
        self.assertEqual(trace(program, rows), listed)
        self.assertEqual(rows, kept)
        self.assertEqual(program, self.program())

    def test_the_order_of_the_names_in_rows(self):
        sources, _ = LAYOUTS[0]
        program = some_program(random.Random(5), LAYOUTS[0])
        rows = some_rows(random.Random(6), sources, 5)
        turned = dict(reversed(rows.items()))
        self.assertNotEqual(list(rows), list(turned))
        self.assertEqual(trace(program, rows), trace(program, turned))
        self.assertEqual(list(run(program, rows).boxes), list(run(program, turned).boxes))


class Moments(unittest.TestCase):
    def test_each_kind(self):
        steps = (("detail", (), ("set", "a", ((1, "a"), (1, "qty")))), ("total", (("L2", True),), ("on", "f")),
                 ("detail", (("visit", True),), ("leave",)), ("detail", (), ("off", "g")), ("total", (), ("leave",)))
        lines = (line("total", "sum", "n:a", when=(("L1", True),), cleared=("a",)), line("detail", "w:day"),
                 line("total", when=(("LR", True),)))
        records = [sale("mo", "ja", 1), visit(), sale("tu", "ja", 2)]
        self.assertEqual(trace(book(steps=steps, lines=lines), {"book": records}), [
            ("read", "book", 0, "sale", 2, False),
            ("step", 0, "detail"), ("step", 3, "detail"), ("line", 1, "detail", ("mo",)),
            ("read", "book", 1, "visit", 0, False),
            ("step", 4, "total"), ("step", 0, "detail"), ("step", 2, "detail"), ("line", 1, "detail", ("mo",)),
            ("read", "book", 2, "sale", 1, False),
            ("step", 4, "total"), ("line", 0, "total", ("sum", 2)),
            ("step", 0, "detail"), ("step", 3, "detail"), ("line", 1, "detail", ("tu",)),
            ("last",), ("step", 1, "total"), ("step", 4, "total"), ("line", 0, "total", ("sum", 2)),
            ("line", 2, "total", ())])

    def test_none(self):
        moments = trace(book(), {})
        self.assertEqual(moments, [("last",)])
        self.assertIs(type(moments), list)

    def test_which_record_is_read(self):
        one = Source("one", (Shape("s", None, (number("x", 1),)),), by=("x",))
        two = Source("two", (Shape("t", None, (number("y", 1),)),), by=("y",))
        rows = {"two": [wide("  1"), wide("  2")], "one": [wide("  2"), wide("  3")]}
        self.assertEqual(trace(Program((one, two)), rows), [
            ("read", "two", 0, "t", 0, False), ("read", "one", 0, "s", 0, True), ("read", "two", 1, "t", 0, True),
            ("read", "one", 1, "s", 0, False), ("last",)])


class Refused(unittest.TestCase):
    def refused(self, kind, program, rows, **given):
        caught = []
        for asked in (run, trace):
            with self.assertRaises(kind) as refusal:
                asked(program, rows, **given)
            self.assertIs(type(refusal.exception), kind)
            caught.append(refusal.exception)
        return caught

    def test_records(self):
        for row, name in ((wide("x"), "book/"), (None, "book/"), ("s" * 60, "book/qty"), (wide("v".ljust(39) + "-"), "book/far")):
            for refusal in self.refused(NoRecord, book(), {"book": [sale(), row, None]}):
                self.assertEqual(refusal.name, name)

    def test_things_that_are_no_records(self):
        for thing in odd_but():
            for refusal in self.refused(NoRecord, book(), {"book": [thing]}):
                self.assertEqual(refusal.name, "book/")

    def test_order(self):
        program = Program((Source("a", (SALE, VISIT), by=("qty",)),))
        for refusal in self.refused(NoOrder, program, {"a": [sale(qty=2), visit(), sale(qty=1), None]}):
            self.assertEqual((refusal.name, refusal.at), ("a", 2))

    def test_too_long_comes_behind_these(self):
        long = book(lines=(line("detail"),))
        for refusal in self.refused(NoRecord, long, {"book": [sale()] * 5 + [None]}, most=2):
            self.assertEqual(refusal.name, "book/")

    def at_most(self, most, program, *records):
        """Just so many steps and lines are done."""
        rows = {"book": list(records)}
        moments = trace(program, rows, most=most)
        self.assertEqual(len([moment for moment in moments if moment[0] in ("step", "line")]), most)
        self.assertEqual(run(program, rows, most=most).pages, plain_run(program, rows)[0])
        run(program, rows, most=most + 1)
        if most:
            self.refused(TooLong, program, rows, most=most - 1)

    def test_steps_and_lines_together(self):
        step, leave = ("detail", (), ("on", "f")), ("detail", (), ("leave",))
        self.at_most(0, book())
        self.at_most(0, book(), sale())
        self.at_most(3, book(steps=(step,)), sale(), sale(), sale())
        self.at_most(3, book(lines=(line("detail"),)), sale(), sale(), sale())
        self.at_most(8, book(steps=(step, step), lines=(line("detail"), line("total"))), sale(), visit())
        self.at_most(4, book(steps=(step, leave, step)), sale(), visit())
        self.at_most(2, book(steps=(("total", (), ("leave",)),)), sale(), visit())
        self.at_most(1, book(lines=(line("total"),)))

    def test_what_is_not_done_does_not_count(self):
        steps = (("detail", (("LR", True),), ("on", "f")), ("detail", (("f", True),), ("leave",)))
        self.at_most(0, book(steps=steps, lines=(line("detail", when=(("gone", True),)),)), sale(), visit())

    def test_none_at_all(self):
        self.refused(TooLong, book(lines=(line("total"),)), {}, most=0)
        self.refused(TooLong, book(lines=(line("detail"),)), {"book": [sale()]}, most=0)

    def test_3000_where_nothing_is_told(self):
        program = book(lines=(line("detail"),))
        self.assertEqual(len(run(program, {"book": [sale()] * 3000}).pages), 3001)
        self.assertEqual(len(trace(program, {"book": [sale()] * 3000})), 6001)
        self.refused(TooLong, program, {"book": [sale()] * 3001})

    def test_many_rounds_in_which_nothing_is_done(self):
        self.assertEqual(len(run(book(), {"book": [sale()] * 3500}).pages), 3501)

    def test_most_is_handed_in_by_name(self):
        for asked in (run, trace):
            with self.assertRaises(TypeError):
                asked(book(), {}, 5)


class BesideThePlainRound(unittest.TestCase):
    def test_programs_of_all_kinds(self):
        many = 0
        for seed in range(300):
            rng = random.Random(seed)
            layout = LAYOUTS[seed % len(LAYOUTS)]
            program, rows = some_program(rng, layout), some_rows(rng, layout[0], 5)
            ran = run(program, rows)
            moments = trace(program, rows)
            with self.subTest(seed=seed):
                self.assertEqual((ran.pages, ran.boxes, ran.flags, moments), plain_run(program, rows))
                self.assertEqual([moment[3] for moment in moments if moment[0] == "line"],
                                 [told for page in ran.pages for told in page])
            many += len(moments)
        self.assertGreater(many, 3000)


if __name__ == "__main__":
    unittest.main()
