import copy
import random
import unittest

from tests.plain import LAYOUTS, some_program, some_rows
from tests.things import number, odd_but, text, wide
from totalround.desk import Desk
from totalround.errors import NoOrder, NoProgram, NoRecord, NoSource, TooLong
from totalround.merging import ordered
from totalround.programs import Program
from totalround.records import laid
from totalround.rounds import run
from totalround.shapes import Shape
from totalround.sources import Source

ITEM = Shape("item", (1, "i"), (number("no", 2), text("day", 6), number("qty", 10)))
NOTE = Shape("note", (1, "n"), (text("words", 2, 4),))
PART = Shape("part", None, (number("id", 2),))
SOURCES = (Source("a", (ITEM, NOTE), by=("no",)), Source("b", (PART,), by=("id",)))
NOTED = wide("nabc")


def item(no, day="mo", qty=0):
    return laid(ITEM, {"no": no, "day": day, "qty": qty})


def part(no):
    return laid(PART, {"id": no})


def program(*, when=(), last=False, text_of="sum", **parts):
    """It tells each item's sum so far at detail time, and at last, where it is asked for, all."""
    given = {"boxes": ("sum",), "levels": ("day",), **parts}
    lines = [("detail", (("item", True), *when), (("text", text_of), ("number", "sum")), ())]
    if last:
        lines.append(("total", (("LR", True),), (("text", "all"), ("number", "sum")), ()))
    return Program(SOURCES, steps=(("detail", (("item", True),), ("set", "sum", ((1, "sum"), (1, "qty")))),),
                   lines=tuple(lines), **given)


class Deeds(unittest.TestCase):
    def refused(self, kind, desk, asked, **parts):
        """It is refused, and the desk is as it was but for its log."""
        records, log, many = desk.records(), desk.log(), len(desk)
        with self.assertRaises(kind) as caught:
            asked()
        self.assertIs(type(caught.exception), kind)
        for name, worth in parts.items():
            self.assertEqual(getattr(caught.exception, name), worth)
        self.assertEqual((desk.records(), len(desk)), (records, many))
        self.assertEqual(desk.log()[:len(log)], log)
        return desk.log()[len(log):]

    def filled(self):
        desk = Desk(program())
        for name, record in (("a", item(1)), ("b", part(2)), ("a", NOTED), ("a", item(3)), ("b", part(2))):
            self.assertIsNone(desk.put(name, record))
        return desk

    def test_a_new_one(self):
        desk = Desk(program())
        self.assertEqual((len(desk), desk.log(), desk.told(), desk.fresh()), (0, [], [], []))
        self.assertEqual(list(desk.records().items()), [("a", []), ("b", [])])

    def test_what_makes_none(self):
        for thing in odd_but() + [SOURCES, Program, [program()], (program(),), Desk(program())]:
            with self.assertRaises(NoProgram) as caught:
                Desk(thing)
            self.assertIs(type(caught.exception), NoProgram)

    def test_a_program_that_is_none_any_more(self):
        changed = program()
        changed.boxes = ["sum"]
        with self.assertRaises(NoProgram):
            Desk(changed)
        self.refused(NoProgram, Desk(program()), lambda: Desk(program()).turn(changed))

    def test_put(self):
        desk = self.filled()
        self.assertEqual(desk.records(), {"a": [item(1), NOTED, item(3)], "b": [part(2), part(2)]})
        self.assertEqual(len(desk), 5)
        self.assertEqual(desk.log(), [("begin", "put"), ("end", "put")] * 5)

    def test_put_to_no_source(self):
        desk = self.filled()
        for name in odd_but() + ["c", "A", "", "item", "ab", ("a",), ["a"], "a "]:
            if name != "a" or not isinstance(name, str):
                for record in (item(5), None):
                    log = self.refused(NoSource, desk, lambda: desk.put(name, record))
                    self.assertEqual(log, [("begin", "put"), ("end", "put")])

    def test_put_of_what_is_no_record(self):
        desk = self.filled()
        for thing in odd_but() + ["i" * 59, "i" * 61, wide("x"), wide("")]:
            log = self.refused(NoRecord, desk, lambda: desk.put("a", thing), name="a/")
            self.assertEqual(log, [("begin", "put"), ("end", "put")])
        self.refused(NoRecord, desk, lambda: desk.put("b", None), name="b/")

    def test_put_of_a_field_that_is_none(self):
        desk = self.filled()
        self.refused(NoRecord, desk, lambda: desk.put("a", wide("i  9".ljust(9) + "x")), name="a/qty")
        self.refused(NoRecord, desk, lambda: desk.put("a", wide("i -".ljust(9) + "x")), name="a/no")
        # The record goes ahead of its key.
        self.refused(NoRecord, desk, lambda: desk.put("a", wide("i  1".ljust(9) + "x")), name="a/qty")
        self.refused(NoRecord, desk, lambda: desk.put("b", wide(" x")), name="b/id")

    def test_put_of_a_key_that_falls(self):
        desk = self.filled()
        self.refused(NoOrder, desk, lambda: desk.put("a", item(2)), name="a", at=3)
        self.refused(NoOrder, desk, lambda: desk.put("b", part(1)), name="b", at=2)
        desk.put("a", NOTED)
        self.refused(NoOrder, desk, lambda: desk.put("a", item(2)), name="a", at=4)
        desk.put("a", item(3))
        desk.put("a", item(4))
        self.refused(NoOrder, desk, lambda: desk.put("a", item(3)), name="a", at=6)

    def test_a_key_that_falls_below_one_that_was_taken_back(self):
        desk = self.filled()
        desk.drop("a")
        self.refused(NoOrder, desk, lambda: desk.put("a", item(0)), name="a", at=2)
        desk.put("a", item(2))
        desk.drop("a")
        desk.drop("a")
        desk.drop("a")
        desk.put("a", item(-5))
        self.assertEqual(desk.records()["a"], [item(-5)])

    def test_put_is_refused_as_ordered(self):
        for seed in range(60):
            rng = random.Random(seed)
            layout = LAYOUTS[seed % len(LAYOUTS)]
            desk, rows = Desk(Program(layout[0])), {source.name: [] for source in layout[0]}
            for _ in range(12):
                name = rng.choice(list(rows))
                record = rng.choice([*some_rows(rng, layout[0], 3)[name], wide("x"), wide("i  x"), wide("")])
                rows[name].append(record)
                try:
                    ordered(layout[0], rows)
                except (NoRecord, NoOrder) as error:
                    rows[name].pop()
                    self.refused(type(error), desk, lambda: desk.put(name, record), **vars(error))
                else:
                    desk.put(name, record)
                self.assertEqual(desk.records(), rows)
                if rows[name] and rng.random() < 0.3:
                    rows[name].pop()
                    desk.drop(name)

    def test_drop(self):
        desk = self.filled()
        self.assertIsNone(desk.drop("a"))
        self.assertEqual(desk.records(), {"a": [item(1), NOTED], "b": [part(2), part(2)]})
        desk.drop("b")
        desk.drop("b")
        self.assertEqual((desk.records(), len(desk)), ({"a": [item(1), NOTED], "b": []}, 2))
        self.assertEqual(desk.log()[10:], [("begin", "drop"), ("end", "drop")] * 3)
        log = self.refused(NoRecord, desk, lambda: desk.drop("b"), name="b")
        self.assertEqual(log, [("begin", "drop"), ("end", "drop")])
        desk.drop("a")
        desk.drop("a")
        self.refused(NoRecord, desk, lambda: desk.drop("a"), name="a")
        self.assertEqual((desk.records(), len(desk)), ({"a": [], "b": []}, 0))

    def test_drop_from_no_source(self):
        for desk in (self.filled(), Desk(program())):
            for name in [thing for thing in odd_but() if not (isinstance(thing, str) and thing == "a")] + ["c", "A", ("a",)]:
                log = self.refused(NoSource, desk, lambda: desk.drop(name))
                self.assertEqual(log, [("begin", "drop"), ("end", "drop")])

    def test_turn(self):
        desk = self.filled()
        self.assertEqual(desk.told(), [("sum", 0), ("sum", 0)])
        again = (Source("a", (Shape("item", (1, "i"), ITEM.fields), Shape("note", (1, "n"), NOTE.fields)), by=("no",)),
                 Source("b", (Shape("part", None, PART.fields),), by=("id",)))
        self.assertIsNone(desk.turn(Program(again, lines=(("detail", (("MR", False),), (("number", "id"),), ()),))))
        self.assertEqual(desk.told(), [(0,), (0,), (2,), (2,), (2,)])
        self.assertEqual(len(desk), 5)
        self.assertEqual(desk.log()[10:], [("begin", "turn"), ("end", "turn")])
        # The keys are where they were.
        self.refused(NoOrder, desk, lambda: desk.put("a", item(2)), name="a", at=3)
        desk.drop("b")
        desk.put("b", part(7))
        self.assertEqual(desk.told(), [(0,), (0,), (2,), (2,), (7,)])

    def test_turn_to_what_is_no_program_or_of_other_sources(self):
        desk = self.filled()
        others = ((SOURCES[0],), SOURCES[::-1], (Source("c", SOURCES[0].shapes, by=("no",)), SOURCES[1]),
                  (Source("a", (NOTE, ITEM), by=("no",)), SOURCES[1]), (Source("a", (ITEM, NOTE)), SOURCES[1]),
                  (Source("a", (Shape("item", (2, "i"), (number("no", 3), *ITEM.fields[1:])), NOTE), by=("no",)), SOURCES[1]))
        for thing in [Program(sources) for sources in others] + odd_but() + [SOURCES, Program, Desk(program())]:
            log = self.refused(NoProgram, desk, lambda: desk.turn(thing))
            self.assertEqual(log, [("begin", "turn"), ("end", "turn")])
        self.assertEqual(desk.told(), [("sum", 0), ("sum", 0)])

    def test_two_desks_at_once(self):
        shared = program()
        one, two = Desk(shared), Desk(shared)
        one.put("a", item(1, qty=5))
        self.assertEqual((len(one), len(two), two.records(), two.log(), two.told()), (1, 0, {"a": [], "b": []}, [], []))
        two.put("a", item(0, qty=7))
        one.turn(program(text_of="x"))
        self.assertEqual((one.fresh(), two.fresh()), ([("x", 5)], [("sum", 7)]))
        self.assertEqual((len(one.log()), len(two.log())), (4, 2))


class Told(unittest.TestCase):
    def test_all_lines_of_run(self):
        for seed in range(40):
            rng = random.Random(seed)
            layout = LAYOUTS[seed % len(LAYOUTS)]
            made, rows = some_program(rng, layout), some_rows(rng, layout[0], 5)
            desk = Desk(made)
            queues = {name: list(records) for name, records in rows.items()}
            while any(queues.values()):
                name = rng.choice([name for name, queue in queues.items() if queue])
                desk.put(name, queues[name].pop(0))
            self.assertEqual(desk.records(), rows)
            self.assertEqual(len(desk), sum(len(records) for records in rows.values()))
            lines = [line for page in run(made, rows).pages for line in page]
            self.assertEqual((desk.told(), desk.fresh(), desk.told(), desk.fresh()), (lines, lines, lines, []))

    def test_records_that_come_late(self):
        desk = Desk(program())
        desk.put("a", item(1, qty=1))
        desk.put("a", item(5, qty=5))
        self.assertEqual(desk.told(), [("sum", 1), ("sum", 6)])
        # This one is read ahead of the others.
        desk.put("b", part(0))
        self.assertEqual(desk.told(), [("sum", 1), ("sum", 6)])
        desk.put("a", item(9, qty=9))
        self.assertEqual(desk.told(), [("sum", 1), ("sum", 6), ("sum", 15)])


class Fresh(unittest.TestCase):
    def test_lines_behind_the_ones_noted(self):
        desk = Desk(program())
        self.assertEqual(desk.fresh(), [])
        desk.put("a", item(1, qty=1))
        self.assertEqual(desk.fresh(), [("sum", 1)])
        self.assertEqual(desk.fresh(), [])
        desk.put("a", NOTED)
        self.assertEqual(desk.fresh(), [])
        desk.put("a", item(2, qty=2))
        desk.put("a", item(3, qty=3))
        self.assertEqual(desk.told(), [("sum", 1), ("sum", 3), ("sum", 6)])
        self.assertEqual(desk.fresh(), [("sum", 3), ("sum", 6)])
        self.assertEqual(desk.fresh(), [])

    def test_a_change_that_does_not_keep_how_the_lines_begin(self):
        desk = Desk(program(last=True))
        self.assertEqual(desk.fresh(), [("all", 0)])
        desk.put("a", item(1, qty=1))
        self.assertEqual(desk.fresh(), [("sum", 1), ("all", 1)])
        self.assertEqual(desk.fresh(), [])
        desk.put("a", item(2, qty=2))
        self.assertEqual(desk.fresh(), [("sum", 1), ("sum", 3), ("all", 3)])

    def test_lines_that_are_taken_back(self):
        desk = Desk(program())
        desk.put("a", item(1, qty=1))
        desk.put("a", item(2, qty=2))
        desk.fresh()
        desk.drop("a")
        # These are fewer than those noted, so that those are not how they begin.
        self.assertEqual(desk.fresh(), [("sum", 1)])
        self.assertEqual(desk.fresh(), [])
        desk.put("a", item(3, qty=3))
        self.assertEqual(desk.fresh(), [("sum", 4)])
        desk.drop("a")
        desk.drop("a")
        self.assertEqual(desk.fresh(), [])
        desk.put("a", item(3, qty=3))
        self.assertEqual(desk.fresh(), [("sum", 3)])

    def test_taken_back_and_put_again_between_two_askings(self):
        desk = Desk(program())
        desk.put("a", item(1, qty=1))
        desk.fresh()
        desk.drop("a")
        desk.put("a", item(1, qty=1))
        desk.put("a", item(2, qty=2))
        self.assertEqual(desk.fresh(), [("sum", 3)])

    def test_told_notes_nothing(self):
        desk = Desk(program())
        desk.put("a", item(1, qty=1))
        desk.told()
        self.assertEqual(desk.fresh(), [("sum", 1)])
        desk.put("a", item(2, qty=2))
        desk.told()
        self.assertEqual(desk.fresh(), [("sum", 3)])

    def test_behind_a_turn(self):
        desk = Desk(program())
        desk.put("a", item(1, qty=1))
        desk.fresh()
        desk.turn(program(last=True))
        self.assertEqual(desk.fresh(), [("all", 1)])
        desk.turn(program(text_of="now"))
        self.assertEqual(desk.fresh(), [("now", 1)])
        desk.turn(program(when=(("LR", True),)))
        self.assertEqual(desk.fresh(), [])
        desk.turn(program())
        self.assertEqual(desk.fresh(), [("sum", 1)])

    def test_refused_deeds_change_nothing(self):
        desk = Desk(program())
        desk.put("a", item(1, qty=1))
        desk.fresh()
        for asked in (lambda: desk.put("a", item(0)), lambda: desk.put("c", item(2)), lambda: desk.drop("b"), lambda: desk.turn(None)):
            with self.assertRaises((NoOrder, NoSource, NoRecord, NoProgram)):
                asked()
        self.assertEqual(desk.fresh(), [])


class TooMuch(unittest.TestCase):
    STEP = ("detail", (), ("set", "sum", ((1, "sum"), (1, ""))))

    def test_a_run_that_is_too_long(self):
        # Each record does 50 steps and a line, so that of 3000 are 58 let by.
        desk = Desk(Program(SOURCES, boxes=("sum",), steps=(self.STEP,) * 50, lines=(("detail", (), (("number", "sum"),), ()),)))
        for _ in range(57):
            desk.put("a", item(1))
        lines = [(50 * k,) for k in range(1, 60)]
        self.assertEqual(desk.fresh(), lines[:57])
        desk.put("a", item(1))
        desk.put("b", part(1))
        self.assertEqual(len(desk), 59)
        for asked in (desk.told, desk.fresh, desk.told, desk.fresh):
            with self.assertRaises(TooLong) as caught:
                asked()
            self.assertIs(type(caught.exception), TooLong)
        self.assertEqual((len(desk), len(desk.records()["a"]), len(desk.log())), (59, 58, 118))
        desk.drop("b")
        self.assertEqual(desk.told(), lines[:58])
        self.assertEqual(desk.fresh(), lines[57:58])
        desk.put("b", part(1))
        with self.assertRaises(TooLong):
            desk.fresh()
        desk.turn(Program(SOURCES, boxes=("sum",), steps=(self.STEP,) * 49, lines=(("detail", (), (("number", "sum"),), ()),)))
        self.assertEqual(desk.fresh(), [(49 * k,) for k in range(1, 60)])


class Own(unittest.TestCase):
    def test_what_is_told_is_the_asker_s_own(self):
        desk = Desk(program(last=True))
        desk.put("a", item(1, qty=1))
        desk.put("b", part(1))
        kept = copy.deepcopy((desk.records(), desk.log(), desk.told()))
        fresh = desk.fresh()
        self.assertEqual(fresh, kept[2])
        for told in (desk.log(), desk.told(), fresh, *desk.records().values(), desk.records()):
            self.assertIn(type(told), (list, dict))
            told.clear()
        self.assertEqual((desk.records(), desk.log(), desk.told()), kept)
        self.assertEqual((desk.fresh(), len(desk)), ([], 2))

    def test_the_program_may_be_changed_later(self):
        given, other = program(), program(text_of="other")
        desk = Desk(given)
        desk.put("a", item(1, qty=1))
        given.lines = ()
        given.sources[0].name = "z"
        given.sources = ()
        self.assertEqual(desk.told(), [("sum", 1)])
        desk.turn(other)
        other.steps = None
        other.sources[1].shapes = ()
        desk.put("a", item(2, qty=2))
        self.assertEqual(desk.told(), [("other", 1), ("other", 3)])
        self.assertEqual(list(desk.records()), ["a", "b"])

    def test_a_desk_leaves_the_program_as_it_was(self):
        given = program()
        desk = Desk(given)
        desk.put("a", item(1))
        desk.turn(program(last=True))
        self.assertEqual(given, program())


if __name__ == "__main__":
    unittest.main()
