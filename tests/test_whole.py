"""What is promised over the whole program: all parts together, at each bound, and under other names and columns."""

import itertools
import random
import unittest

from tests.even import aa, bb, cc, even, pages, some_even
from tests.plain import LAYOUTS, plain_run, some_program, some_rows
from tests.things import number, text
from totalround.alike import alike, is_paper
from totalround.desk import Desk
from totalround.levels import broken
from totalround.merging import ordered
from totalround.programs import Program, cells
from totalround.programtexts import program_text, read_program
from totalround.records import laid
from totalround.reports import group_keys, grouped, report
from totalround.rounds import run, trace
from totalround.shapes import Shape
from totalround.shares import shared, shares
from totalround.sources import Source, cut_by


def lines_of(made):
    return [line for page in made for line in page]


def full_sources():
    """Four sources of four shapes, each shape of eight fields, three of these the keys, three the levels."""
    sources = []
    for place in "wxyz":
        shapes = []
        for mark in "pqrs":
            own = [number(place + mark + letter, column, 1) for letter, column in (("a", 58), ("b", 60))]
            fields = (text("ka", 2, 2), number("kb", 4, 2), text("kc", 6, 1), text("la", 10, 20), text("lb", 30, 10), number("lc", 40, 9))
            shapes.append(Shape("s" + place + mark, (1, mark), (*fields, *own)))
        sources.append(Source(place, tuple(shapes), by=("ka", "kb", "kc")))
    return tuple(sources)


FULL = full_sources()
FULL_LEVELS = ("la", "lb", "lc")


def full_program(deeds):
    """As much as there may be of everything."""
    boxes, flags = tuple("abcdefgh"), ("m", "n", "o")
    numbers = cells(Program(FULL))
    sums = tuple((times, name) for times, name in zip((2, -2, 999, -999, 1, 1), ("a", "h", numbers[0], numbers[-1], "", "h")))
    conditions = (("swp", False), ("L3", True), ("LR", False))
    made = {
        "set": ("set", "a", sums), "times": ("times", "b", numbers[0], numbers[1]), "on": ("on", "o"), "off": ("off", "o"),
        "ask": ("ask", "over", sums, sums[:1], "m"), "leave": ("leave",), "count": ("set", "h", ((1, "h"), (1, "lc"))),
    }
    steps = tuple((time, conditions if k % 7 == 3 else (), made[word]) for k, (time, word) in enumerate(
        itertools.islice(itertools.cycle(itertools.product(("detail", "total"), deeds)), 60)))
    parts = (("text", "~" * 20), ("number", "a"), ("number", "h"), ("number", numbers[-1]), ("words", "la"), ("words", "kc"),
             ("text", ""), ("number", numbers[0]))
    lines = tuple((time, conditions[1:] if k % 3 else (), parts, ("a", "b", "c", "d", "e", "f", "g", "g"))
                  for k, time in enumerate(("total", "detail") * 6))
    return Program(FULL, levels=FULL_LEVELS, boxes=boxes, flags=flags, steps=steps, lines=lines)


def full_rows(many):
    """Rows for each of these sources, of each shape."""
    rng = random.Random(many)
    rows = {}
    for source in FULL:
        rows[source.name] = []
        for k in range(many):
            shape = source.shapes[k % 4]
            worths = {name: rng.randint(0, 9) for name, _, _, kind in shape.fields if kind == "number"}
            worths |= {"ka": "a", "kb": k // 2 - 9, "kc": "~", "la": rng.choice(("", "x" * 20)), "lb": rng.choice("uv"),
                       "lc": rng.choice((-99999999, 999999999))}
            rows[source.name].append(laid(shape, worths))
    return rows


class AllThatMayBe(unittest.TestCase):
    DEEDS = ("set", "times", "on", "ask", "count", "off")

    def test_it_is_as_much_as_may_be(self):
        program = full_program(self.DEEDS)
        self.assertEqual((len(program.sources), {len(source.shapes) for source in FULL}, {len(source.by) for source in FULL}), (4, {4}, {3}))
        self.assertEqual({len(shape.fields) for source in FULL for shape in source.shapes}, {8})
        self.assertEqual((len(program.levels), len(program.boxes), len(program.flags), len(program.steps), len(program.lines)),
                         (3, 8, 3, 60, 12))

    def test_written_read_run_and_traced(self):
        for deeds in (self.DEEDS, (*self.DEEDS, "leave")):
            program, rows = full_program(deeds), full_rows(9)
            self.assertEqual(read_program(program_text(program)), program)
            ran = run(program, rows)
            self.assertEqual((ran.pages, ran.boxes, ran.flags, trace(program, rows)), plain_run(program, rows))
            self.assertGreater(len(lines_of(ran.pages)), 100)
            self.assertEqual({matches for *_, matches in ordered(FULL, rows)}, {True})

    def test_shared(self):
        program, rows = full_program(("set", "on", "count", "off")), full_rows(9)
        told = shares(program, rows)
        self.assertEqual(shared(FULL, rows, told), run(program, rows).pages)

    def test_at_a_desk(self):
        program, rows = full_program(self.DEEDS), full_rows(9)
        desk = Desk(program)
        seen = []
        for k in range(9):
            for source in reversed(FULL):
                desk.put(source.name, rows[source.name][k])
            fresh = desk.fresh()
            now = desk.told()
            self.assertIn(fresh, (now, now[len(seen):]))
            seen = now
        self.assertEqual((desk.records(), len(desk)), (rows, 36))
        self.assertEqual(seen, lines_of(run(program, rows).pages))
        for _ in range(9):
            for source in FULL:
                desk.drop(source.name)
        self.assertEqual((len(desk), desk.told()), (0, lines_of(run(program, {}).pages)))

    def test_reports(self):
        rows = full_rows(12)
        for many in (1, 2, 3):
            levels = FULL_LEVELS[:many]
            for cell in ("lc", "xqa"):
                program = report(FULL, levels, cell, prefix="rep")
                told = lines_of(run(program, rows).pages)
                self.assertEqual(told, grouped(FULL, rows, levels, cell))
                self.assertEqual(read_program(program_text(program)), program)
                self.assertEqual(shared(FULL, rows, shares(program, rows)), run(program, rows).pages)
                for k in range(1, many + 1):
                    self.assertEqual(len(group_keys(FULL, rows, levels, k)), [line[0] for line in told].count(f"L{k}"))

    def test_an_even_one(self):
        shapes = tuple(Shape("s" + mark, (60, mark), (text("la", 1, 3), text("lb", 4, 20), text("lc", 24, 1), *[
            number(mark + letter, 25 + 3 * k, 3) for k, letter in enumerate("abcde")])) for mark in "pqrs")
        sources = (Source("book", shapes),)
        numbers = cells(Program(sources))
        conditions = (("L2", True), ("sp", True), ("f", False))

        def made(boxes, flags, turned):
            steps = []
            for k in range(58):
                terms = [(2, boxes[k % 4]), (-1, boxes[3 - k % 4]), (999, numbers[k % 20]), (-1, numbers[(7 * k) % 20]), (5, ""), (1, "")]
                when = tuple((flags[0] if name == "f" else name, wanted) for name, wanted in conditions[:k % 4])
                steps.append((("total", "detail")[k % 2], when, ("set", boxes[k % 4], tuple(terms[::-1] if turned else terms))))
            steps.append(("detail", (("sq", True),), ("on", flags[0])))
            steps.append(("detail", (("sr", True),), ("off", flags[0])))
            lines = tuple((time, (("L1", True),), tuple(("number", box) for box in boxes), boxes[:2]) for time in ("total", "detail") * 6)
            return Program(sources, levels=("la", "lb", "lc"), boxes=boxes, flags=flags, steps=tuple(steps), lines=lines)

        one, other = made(tuple("abcd"), ("f", "g"), False), made(tuple("efgh"), ("x", "y"), True)
        word, paper = alike(one, other)
        self.assertEqual(word, "alike")
        self.assertTrue(is_paper(one, other, paper))
        late = Program(sources, levels=one.levels, boxes=one.boxes, flags=one.flags, steps=one.steps[:-1], lines=one.lines)
        word, records, at = alike(other, late)
        told = [run(program, {"book": records}, most=10 ** 5).pages for program in (other, late)]
        self.assertEqual((word, [k for k, both in enumerate(zip(*told)) if both[0] != both[1]][0]), ("unlike", at))


class PlainLaws(unittest.TestCase):
    """[0.2] (b) and (c): each number told by the records it comes from, each record counted once in each level."""

    def test_each_number_of_a_report_counts_each_record_once(self):
        for seed in range(60):
            rng = random.Random(seed)
            sources, levels = LAYOUTS[seed % 3]
            levels = levels[:rng.randint(1, 2)]
            rows = some_rows(rng, sources, 7)
            pages_told = shares(report(sources, levels, "qty", prefix="r"), rows)
            counted = {}
            for word, (rest, some), (count, none) in lines_of(pages_told):
                self.assertEqual((rest, none), (0, ()))
                self.assertEqual((count, {times for _, times in some}), (len(some), {1} if some else set()))
                counted.setdefault(word, []).extend([share for share, _ in some])
            # A record of a levelled shape with the cell counts once in each level, and once in all.
            places = {source.name: source for source in sources}
            expected = []
            for name, at, _, _ in ordered(sources, rows):
                worths = cut_by(places[name], rows[name][at])[1]
                if "qty" in worths and all(level in worths for level in levels):
                    expected.append((name, at, "qty"))
            self.assertEqual(counted["LR"], expected)
            for k in range(len(levels)):
                self.assertEqual(counted.get(f"L{k + 1}", []), expected)

    def test_alike_ones_print_the_same_for_all_records(self):
        for seed in range(40):
            rng = random.Random(seed)
            one = some_even(rng, ("a", "b"), ("f",))
            other = Program(one.sources, levels=one.levels, boxes=("c", *one.boxes), flags=("g", "f"), lines=one.lines,
                            steps=(("total", (), ("set", "c", ((1, "qty"),))), *one.steps, ("detail", (), ("on", "g"))))
            # A leave may go ahead of the added ones, but not of what is printed.
            self.assertEqual(alike(one, other)[0], "alike")
            records = [rng.choice((aa, bb))(rng.choice("xyz"), qty=rng.randint(-99, 999)) for _ in range(8)] + [cc("x", "q")]
            self.assertEqual(pages(one, records), pages(other, records))


class Renaming:
    """Other names for all, and other columns."""

    def __init__(self, rng, sources, boxes, flags):
        names = {shape.name for source in sources for shape in source.shapes}
        names |= {field[0] for source in sources for shape in source.shapes for field in shape.fields} | {*boxes, *flags}
        others = rng.sample(["".join(letters) for letters in itertools.product("klmz", repeat=3)], len(names))
        self.names = dict(zip(sorted(names), others)) | {"": ""}
        self.rng = rng
        self.shapes = {}
        # Marks stay in one column where they stand in one.
        self.mark = rng.randint(1, 60)

    def fields(self, fields, mark):
        """These fields with other names, at other columns, in the same order."""
        free = [column for column in range(1, 61) if mark is None or column != self.mark]
        order = self.rng.sample(fields, len(fields))
        taken, at = {}, 0
        for name, _, length, _ in order:
            # A field stands in one row of columns, so not across the mark's.
            while free[at + length - 1] - free[at] != length - 1:
                at += 1
            taken[name] = free[at]
            at += length
        return tuple((self.names[name], taken[name], length, kind) for name, _, length, kind in fields)

    def shape(self, shape):
        mark = None if shape.mark is None else (self.mark, shape.mark[1])
        made = Shape(self.names[shape.name], mark, self.fields(shape.fields, mark))
        self.shapes[shape.name] = made
        return made

    def sources(self, sources):
        return tuple(Source(source.name, tuple(self.shape(shape) for shape in source.shapes), by=self.all(source.by))
                     for source in sources)

    def all(self, names):
        return tuple(self.names[name] for name in names)

    def terms(self, terms):
        return tuple((times, self.names[name]) for times, name in terms)

    def conditions(self, conditions):
        return tuple((self.names.get(name, name), wanted) for name, wanted in conditions)

    def deed(self, deed):
        match deed:
            case ("set", box, terms):
                return ("set", self.names[box], self.terms(terms))
            case ("ask", word, one, other, flag):
                return ("ask", word, self.terms(one), self.terms(other), self.names[flag])
        return (deed[0], *self.all(deed[1:]))

    def program(self, program, sources):
        return Program(
            sources, levels=self.all(program.levels), boxes=self.all(program.boxes), flags=self.all(program.flags),
            steps=tuple((time, self.conditions(when), self.deed(deed)) for time, when, deed in program.steps),
            lines=tuple((time, self.conditions(when), tuple((kind, told if kind == "text" else self.names[told]) for kind, told in parts),
                         self.all(cleared)) for time, when, parts, cleared in program.lines))

    def rows(self, sources, rows):
        told = {}
        for source in sources:
            told[source.name] = []
            for record in rows[source.name]:
                called, worths = cut_by(source, record)
                told[source.name].append(laid(self.shapes[called], {self.names[name]: worth for name, worth in worths.items()}))
        return told


class OtherNames(unittest.TestCase):
    def both(self, rng, sources, boxes, flags):
        renaming = Renaming(rng, sources, boxes, flags)
        return renaming, renaming.sources(sources)

    def test_programs_of_all_kinds(self):
        for seed in range(90):
            rng = random.Random(seed)
            layout = LAYOUTS[seed % 3]
            program, rows = some_program(rng, layout), some_rows(rng, layout[0], 5)
            renaming, sources = self.both(rng, layout[0], program.boxes, program.flags)
            other, others = renaming.program(program, sources), renaming.rows(layout[0], rows)
            names = renaming.names
            with self.subTest(seed=seed):
                self.assertEqual([(name, at, names[shape], matches) for name, at, shape, matches in ordered(layout[0], rows)],
                                 ordered(sources, others))
                self.assertEqual(broken(layout[0], rows, program.levels), broken(sources, others, other.levels))
                ran, again = run(program, rows), run(other, others)
                self.assertEqual(ran.pages, again.pages)
                self.assertEqual([(names[box], worth) for box, worth in ran.boxes.items()], list(again.boxes.items()))
                self.assertEqual([(names[flag], is_on) for flag, is_on in ran.flags.items()], list(again.flags.items()))
                self.assertEqual([moment if moment[0] != "read" else (*moment[:3], names[moment[3]], *moment[4:])
                                  for moment in trace(program, rows)], trace(other, others))
                self.assertEqual(read_program(program_text(other)), other)

    def test_shares(self):
        for seed in range(60):
            rng = random.Random(seed)
            layout = LAYOUTS[seed % 3]
            program = some_program(rng, layout, words=("set", "set", "on", "ask", "off", "leave"))
            rows = some_rows(rng, layout[0], 5)
            renaming, sources = self.both(rng, layout[0], program.boxes, program.flags)

            def renamed(thing):
                if isinstance(thing, str):
                    return thing
                return (thing[0], tuple(((*share[:2], renaming.names[share[2]]), times) for share, times in thing[1]))

            told = shares(renaming.program(program, sources), renaming.rows(layout[0], rows))
            self.assertEqual([[tuple(renamed(thing) for thing in line) for line in page] for page in shares(program, rows)], told)

    def test_reports(self):
        for seed in range(30):
            rng = random.Random(seed)
            sources, levels = LAYOUTS[seed % 3]
            rows = some_rows(rng, sources, 6)
            renaming, others = self.both(rng, sources, (), ())
            told = renaming.rows(sources, rows)
            self.assertEqual(grouped(sources, rows, levels, "qty"), grouped(others, told, renaming.all(levels), renaming.names["qty"]))
            made = [report(sources, levels, "qty", prefix="r"), report(others, renaming.all(levels), renaming.names["qty"], prefix="r")]
            self.assertEqual(run(made[0], rows).pages, run(made[1], told).pages)

    def test_papers(self):
        for seed in range(25):
            rng = random.Random(seed)
            one = some_even(rng, ("a", "b"), ("f",))
            two = some_even(rng, ("a", "b"), ("f",)) if seed % 2 else even(one.steps[1:], one.lines, boxes=one.boxes, levels=one.levels)
            renaming, sources = self.both(rng, one.sources, one.boxes, one.flags)
            told = alike(one, two)
            again = alike(renaming.program(one, sources), renaming.program(two, sources))
            self.assertEqual(told[0], again[0])
            if told[0] == "unlike":
                self.assertEqual(len(told[1]), len(again[1]))


if __name__ == "__main__":
    unittest.main()
