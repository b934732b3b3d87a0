import copy
import random
import unittest

from tests.even import (LEVELS, SOURCES, aa, bb, cc, even, few_records, first_other_round, pages, plain_is_paper,
                        some_even)
from tests.things import number, odd_but, text
from totalround.alike import alike, is_paper
from totalround.errors import NoEven
from totalround.evens import stepped
from totalround.programs import Program
from totalround.reports import report
from totalround.shapes import Shape
from totalround.sources import Source

BEGIN = ((), (), True, False)


def line(time, *parts, when=(), cleared=()):
    """A line of numbers."""
    return (time, when, tuple(("number", part) for part in parts), cleared)


def step(time, box, *terms, when=()):
    """A step that sets a box."""
    return (time, when, ("set", box, terms))


def flag(time, word, name, *when):
    """A step that turns a flag on or off."""
    return (time, when, (word, name))


def sums(box, *more, shape="aa"):
    """The sum of the qty of one shape, told at each break."""
    return even((step("detail", box, (1, box), (1, "qty"), when=((shape, True),)), *more),
                (line("total", box, when=(("L1", True),), cleared=(box,)),), boxes=(box, "u", "v"))


class Alike(unittest.TestCase):
    def alike(self, one, other):
        for pair in ((one, other), (other, one)):
            word, paper = alike(*pair)
            self.assertEqual(word, "alike")
            self.assertIs(is_paper(*pair, paper), True)
            self.assertTrue(plain_is_paper(*pair, paper))
            self.assertEqual(alike(*pair), (word, paper))
        return paper

    def unlike(self, many, at, one, other):
        """They part on so many records at the earliest, in this round."""
        for pair in ((one, other), (other, one)):
            told = alike(*pair)
            self.assertIs(type(told), tuple)
            word, records, round_ = told
            self.assertEqual((word, len(records), type(records)), ("unlike", many, list))
            self.assertEqual(first_other_round(*pair, records), round_)
            if at is not None:
                self.assertEqual(round_, at)
            self.assertEqual(alike(*pair), told)
            records.clear()
            self.assertEqual(len(alike(*pair)[1]), many)

    def test_a_program_with_itself(self):
        for program in (even(), sums("a"), report(SOURCES, ("day",), "qty"), even(levels=())):
            self.alike(program, program)

    def test_sums_in_another_order(self):
        self.alike(even((step("detail", "a", (1, "a"), (2, "qty"), (3, "")),), (line("total", "a"),)),
                   even((step("detail", "a", (3, ""), (1, "qty"), (1, "a"), (1, "qty")),), (line("total", "a"),)))

    def test_boxes_of_other_names(self):
        self.alike(sums("a"), sums("x"))

    def test_one_more_box_that_is_not_printed(self):
        self.alike(sums("a"), sums("a", step("total", "v", (2, "v"), (1, "qty"), (7, ""))))

    def test_a_set_twice(self):
        again = step("total", "b", (1, "qty"))
        self.alike(even((again,), (line("total", "b"),)), even((again, again), (line("total", "b"),)))

    def test_told_in_another_way(self):
        # The last sum is the difference of all so far and all at the last break.
        other = even((step("detail", "a", (1, "a"), (1, "qty"), when=(("aa", True),)),
                      step("total", "c", (1, "a"), (-1, "b"), when=(("L1", True),)),
                      step("total", "b", (1, "a"), when=(("L1", True),))),
                     (line("total", "c", when=(("L1", True),)),), boxes=("a", "b", "c"))
        paper = self.alike(sums("x"), other)
        self.assertIn(BEGIN, [stand for stand, _ in paper])

    def test_a_flag_for_what_an_indicator_tells(self):
        one = even((flag("detail", "on", "f"), flag("detail", "off", "f", ("aa", False))), (line("total", "a", when=(("f", True),)),))
        other = even((flag("detail", "off", "g", ("aa", True)), flag("detail", "on", "g", ("aa", False))),
                     (line("total", "a", when=(("g", False), ("h", True))),), flags=("g", "h"))
        self.unlike(1, 1, one, other)
        self.alike(one, Program(SOURCES, levels=LEVELS, boxes=("a",), flags=("g",), steps=(
            flag("detail", "on", "g", ("aa", True)), flag("detail", "off", "g", ("aa", False))),
            lines=(line("total", "a", when=(("g", True),)),)))

    def test_what_never_comes(self):
        # A bb is of no levelled shape, so that with it no level breaks; MR is never on with one source.
        never = line("total", "qty", when=(("bb", True), ("L1", True)))
        self.alike(even(lines=(never,)), even(lines=(line("detail", "qty", when=(("MR", True),)),)))
        self.alike(even(), even(lines=(line("detail", "qty", when=(("LR", True),)),)))
        self.alike(even(), even(lines=(line("total", "a", when=(("L2", True), ("L1", False))),)))

    def test_they_part_without_a_record(self):
        self.unlike(0, 0, even(), even(lines=(line("total"),)))
        self.unlike(0, 0, even((step("total", "a", (1, "")),), (line("total", "a"),)), even(lines=(line("total", "a"),)))
        self.unlike(0, 0, even(lines=(("total", (), (("text", "x"),), ()),)), even(lines=(("total", (), (("text", "y"),), ()),)))
        self.unlike(0, 0, even(lines=(("total", (), (("text", "0"),), ()),)), even(lines=(line("total", "a"),)))
        self.unlike(0, 0, even(lines=(line("total"), line("total"))), even(lines=(line("total"),)))

    def test_they_part_in_the_first_round(self):
        self.unlike(1, 0, even(), even(lines=(line("detail"),)))
        self.unlike(1, 0, even(), even(lines=(line("detail", "qty", when=(("bb", True),)),)))

    def test_they_part_in_the_last_round(self):
        one = sums("a")
        last = line("total", "u", when=(("LR", True), ("f", True)))
        self.unlike(1, 1, one, even((*one.steps, flag("detail", "on", "f")), (*one.lines, last), boxes=one.boxes))

    def test_they_part_behind_many_records(self):
        # Each box is one behind the other, so that what is moved is printed four rounds later.
        late = (step("detail", "d", (1, "c")), step("detail", "c", (1, "b")), step("detail", "b", (1, "a")),
                step("detail", "a", (1, "qty"), when=(("aa", True),)))
        names = {"boxes": ("a", "b", "c", "d")}
        self.unlike(4, 3, even(late, (line("detail", "d"),), **names), even((), (line("detail", "d"),), **names))
        self.unlike(4, 4, even(late, (line("total", "d"),), **names), even((), (line("total", "d"),), **names))

    def test_they_part_by_one_moved_number(self):
        one = even((step("detail", "a", (1, "a"), (1, "qty"), (1, "price")),), (line("total", "a", when=(("LR", True),)),))
        other = even((step("detail", "a", (1, "a"), (1, "qty"), (2, "price")),), (line("total", "a", when=(("LR", True),)),))
        self.unlike(1, 1, one, other)
        self.assertIn("1", alike(one, other)[1][0][13:16])

    def test_they_part_by_one_moved_number_of_the_second_record(self):
        # A box counts the records, so that each one leads to vectors that were not there.
        steps = (step("detail", "a", (1, "a"), (1, "")), flag("detail", "on", "f"))
        for name in ("qty", "price"):
            one = even((*steps[:1], step("detail", "b", (1, name), when=(("f", True),)), steps[1]), (line("detail", "b"),))
            self.unlike(2, 1, one, even(steps, (line("detail", "b"),)))

    def test_they_part_by_a_break(self):
        # Both tell all breaks but for the second one of the lowest level alone.
        one = even(lines=(line("detail", when=(("L1", True),)),))
        other = even(lines=(line("detail", when=(("L2", True),)),))
        self.unlike(2, 1, one, other)
        self.unlike(2, 1, even(lines=(line("total", when=(("L2", True), ("aa", True))),)), even())
        self.unlike(2, 1, even(lines=(line("detail", when=(("L1", False), ("aa", True))),)), even())

    def test_they_part_through_a_flag(self):
        steps = (flag("detail", "on", "g", ("f", True), ("cc", True)), flag("detail", "on", "f", ("bb", True)))
        one = even(steps, (line("detail", when=(("g", True),)),), flags=("f", "g"))
        self.unlike(2, 1, one, even(flags=("f", "g")))
        late = even(steps, (line("total", when=(("g", True), ("bb", True))),), flags=("f", "g"))
        self.unlike(3, 2, late, even())

    def test_a_shape_without_a_mark(self):
        shape = Shape("s", None, (text("d", 59, 1), number("q", 60, 1)))
        sources = (Source("only", (shape,)),)
        one = Program(sources, levels=("d",), boxes=("a",), steps=(step("detail", "a", (1, "a"), (1, "q")),),
                      lines=(line("total", "a", when=(("L1", True),)),))
        other = Program(sources, levels=("d",), boxes=("a",), steps=(step("detail", "a", (1, "a"), (1, "q")),),
                        lines=(line("total", "a", when=(("LR", True),)),))
        self.assertEqual(alike(one, one)[0], "alike")
        word, records, at = alike(one, other)
        self.assertEqual((word, len(records), at), ("unlike", 2, 1))

    def test_no_numbers_at_all(self):
        shape = Shape("s", None, ())
        one = Program((Source("only", (shape,)),), lines=(("detail", (), (("text", "x"),), ()),))
        self.assertEqual(alike(one, one), ("alike", ((BEGIN, ((),)), (((), (), False, False), ((),)))))

    def test_reports(self):
        one = report(SOURCES, ("day",), "qty")
        self.alike(one, report(SOURCES, ("day",), "qty", prefix="r"))
        self.unlike(1, None, one, report(SOURCES, ("day",), "price"))
        plain = Program(SOURCES, levels=("day",), boxes=("s", "n", "t", "m"), flags=("k",), steps=(
            ("detail", (), ("on", "k")),
            ("detail", (("cc", False),), ("set", "s", ((1, "s"), (1, "qty")))),
            ("detail", (("cc", False),), ("set", "n", ((1, "n"), (1, "")))),
            ("total", (("L1", True),), ("set", "t", ((1, "t"), (1, "s")))),
            ("total", (("L1", True),), ("set", "m", ((1, "m"), (1, "n"))))), lines=(
            ("total", (("L1", True), ("k", True)), (("text", "L1"), ("number", "s"), ("number", "n")), ("s", "n")),
            ("total", (("LR", True),), (("text", "LR"), ("number", "t"), ("number", "m")), ())))
        self.alike(one, plain)


class BesideTrying(unittest.TestCase):
    def test_programs_of_all_kinds(self):
        words = {"alike": 0, "unlike": 0}
        for seed in range(45):
            rng = random.Random(seed)
            levels = LEVELS[:rng.randint(0, 2)]
            one = some_even(rng, ("a", "b"), ("f",), levels)
            steps = list(one.steps)
            if steps:
                del steps[rng.randrange(len(steps))]
            other = Program(SOURCES, levels=levels, boxes=("a", "b", "c"), flags=("f",), steps=tuple(steps), lines=one.lines)
            if seed % 3 == 0:
                other = some_even(rng, ("a",), ("f",), levels)
            told = alike(one, other)
            words[told[0]] += 1
            with self.subTest(seed=seed):
                if told[0] == "alike":
                    self.assertTrue(plain_is_paper(one, other, told[1]))
                    self.assertIs(is_paper(one, other, told[1]), True)
                    self.assertEqual([records for records in few_records(2) if pages(one, records) != pages(other, records)], [])
                else:
                    self.assertEqual(first_other_round(one, other, told[1]), told[2])
                    self.assertEqual([records for records in few_records(min(2, len(told[1]) - 1))
                                      if pages(one, records) != pages(other, records)], [])
                self.assertEqual(alike(other, one)[0], told[0])
        self.assertGreater(min(words.values()), 8, words)


class Papers(unittest.TestCase):
    ONE, OTHER = sums("x"), sums("y", step("total", "v", (1, "v"), (1, "qty")))

    def setUp(self):
        self.paper = alike(self.ONE, self.OTHER)[1]
        self.stands = [stand for stand, _ in self.paper]

    def told(self, worth, paper):
        with self.subTest(paper=repr(paper)):
            self.assertIs(is_paper(self.ONE, self.OTHER, paper), worth)

    def test_the_paper_told(self):
        self.assertIs(type(self.paper), tuple)
        kept = copy.deepcopy(self.paper)
        self.told(True, self.paper)
        self.told(True, self.paper[::-1])
        self.told(True, tuple((stand, vectors[::-1]) for stand, vectors in self.paper))
        self.assertEqual(self.paper, kept)
        for stand, vectors in self.paper:
            self.assertEqual([type(thing) for thing in (stand, vectors, vectors[0])], [tuple] * 3)
            self.assertEqual({len(vector) for vector in vectors}, {2 + 3 + 3})

    def test_a_stand_lacks(self):
        for at in range(len(self.paper)):
            self.told(False, self.paper[:at] + self.paper[at + 1:])
        self.told(False, ())

    def test_a_stand_twice(self):
        for at in range(len(self.paper)):
            self.told(False, self.paper + (self.paper[at],))
            stand, vectors = self.paper[at]
            if len(vectors) > 1:
                self.told(False, self.paper[:at] + ((stand, vectors[:1]), (stand, vectors[1:])) + self.paper[at + 1:])

    def test_a_stand_more(self):
        # One more holds where all that comes of it holds.
        nought = ((0,) * 8,)
        self.told(True, self.paper + ((((), (), True, True), nought),))
        self.told(False, self.paper + ((((), (), True, True), ((0, 0, 1, 0, 0, 0, 0, 0),)),))
        self.told(False, self.paper + ((((), (), True, True), ()),))
        for thing in odd_but():
            self.told(False, self.paper + ((((thing,), (), True, True), nought),))
            self.told(False, self.paper + ((((), (thing,), True, True), nought),))
        for thing in odd_but(bool):
            self.told(False, self.paper + ((((), (), thing, True), nought),))
            self.told(False, self.paper + ((((), (), True, thing), nought),))

    def otherwise(self, change):
        """Papers of which one entry is changed."""
        for at, entry in enumerate(self.paper):
            yield self.paper[:at] + (change(*entry),) + self.paper[at + 1:]

    def test_a_stand_otherwise(self):
        for at, (stand, vectors) in enumerate(self.paper):
            for other in ((("f",), *stand[1:]), (stand[0], ("f",), *stand[2:]), (*stand[:2], not stand[2], stand[3]),
                          (*stand[:3], not stand[3])):
                changed = self.paper[:at] + ((other, vectors),) + self.paper[at + 1:]
                self.assertIs(is_paper(self.ONE, self.OTHER, changed), False)

    def test_no_vector(self):
        for paper in self.otherwise(lambda stand, vectors: (stand, ())):
            self.told(False, paper)

    def test_a_vector_lacks(self):
        for k in range(9):
            for paper in self.otherwise(lambda stand, vectors: (stand, vectors[:k] + vectors[k + 1:]) if vectors[k + 1:] or k else (stand, vectors)):
                self.told(paper == self.paper, paper)

    def test_a_vector_more(self):
        # A mix of the others is one too many, but does no harm; any other one parts the two or leads beyond.
        for paper in self.otherwise(lambda stand, vectors: (stand, (*vectors, vectors[0]))):
            self.told(True, paper)
        for paper in self.otherwise(lambda stand, vectors: (stand, (*vectors, (5, 6, 7, 8, 9, 10, 11, 12)))):
            self.told(False, paper)

    def test_a_number_otherwise(self):
        seen = set()
        for at, (stand, vectors) in enumerate(self.paper):
            for k, vector in enumerate(vectors[:3]):
                for place in range(len(vector)):
                    changed = vector[:place] + (vector[place] + 1,) + vector[place + 1:]
                    paper = self.paper[:at] + ((stand, vectors[:k] + (changed,) + vectors[k + 1:]),) + self.paper[at + 1:]
                    told = plain_is_paper(self.ONE, self.OTHER, paper)
                    seen.add(told)
                    self.told(told, paper)
        self.assertIn(False, seen)

    def test_the_vector_of_noughts_is_among_those_of_the_begin(self):
        self.assertIn((0,) * 8, dict(self.paper)[BEGIN])
        one = even((), (), boxes=())
        paper = alike(one, one)[1]
        self.assertTrue(is_paper(one, one, paper))
        rest = tuple(entry for entry in paper if entry[0] != BEGIN)
        for vectors in (((1, 0),), ((1, 0), (-1, 0)), ((1, 0), (0, 1))):
            self.assertIs(is_paper(one, one, ((BEGIN, vectors), *rest)), False)
        # The others are of all cells, so that they are mixes of all that come.
        self.assertIs(is_paper(one, one, ((BEGIN, ((1, 0), (0, 0))), *rest)), True)

    def test_of_another_pair(self):
        other = sums("x", step("total", "x", (1, "x"), when=(("LR", True),)))
        self.assertIs(is_paper(other, self.OTHER, self.paper), True)
        apart = even(self.ONE.steps, (line("total", "x", "u", when=(("L1", True),), cleared=("x",)),), boxes=self.ONE.boxes)
        self.assertIs(is_paper(apart, self.OTHER, self.paper), False)
        self.assertIs(is_paper(self.ONE, even(), self.paper), False)
        self.assertIs(is_paper(even(), even(), self.paper), False)
        for at in (0, 1):
            self.assertEqual(alike(*(apart, self.OTHER)[::1 - 2 * at])[0], "unlike")
        unlike = sums("x", shape="bb")
        for paper in (self.paper, alike(unlike, unlike)[1]):
            self.assertIs(is_paper(self.ONE, unlike, paper), False)

    def test_things_of_other_kinds(self):
        for thing in odd_but() + [list(self.paper), dict(self.paper), self.paper[0], (self.paper,), iter(self.paper)]:
            self.told(False, thing)

    def test_things_of_other_kinds_at_each_depth(self):
        stand, vectors = self.paper[0]
        others = self.paper[1:]
        self.told(True, ((stand, vectors), *others))
        for thing in odd_but():
            self.told(False, (thing, *others))
            self.told(False, ((stand, vectors), *others, thing))
            self.told(False, ((thing, vectors), *others))
            self.told(False, ((stand, thing), *others))
            self.told(False, ((stand, (thing, *vectors)), *others))
            self.told(False, ((stand, (*vectors, thing)), *others))
        for thing in odd_but(tuple):
            self.told(False, (((thing, *stand[1:]), vectors), *others))
            self.told(False, (((stand[0], thing, *stand[2:]), vectors), *others))
            self.told(False, ((((thing,), *stand[1:]), vectors), *others))
        for thing in odd_but(bool):
            self.told(False, (((*stand[:2], thing, stand[3]), vectors), *others))
            self.told(False, (((*stand[:3], thing), vectors), *others))
        for thing in odd_but(int) + [True, False]:
            for place in range(8):
                vector = vectors[0][:place] + (thing,) + vectors[0][place + 1:]
                self.told(False, ((stand, (*vectors, vector)), *others))

    def test_shapes_of_other_sizes(self):
        stand, vectors = self.paper[0]
        others = self.paper[1:]
        for entry in ((stand,), (stand, vectors, vectors), (vectors, stand), [stand, vectors], (stand[:3], vectors), ((*stand, True), vectors),
                      (list(stand), vectors), (stand, list(vectors)), (stand, vectors[0]), (stand, (vectors[0][:7],)),
                      (stand, (*vectors, vectors[0] + (0,))), (stand, (*vectors, ())), (stand, (*vectors, list(vectors[0])))):
            self.told(False, (entry, *others))
            self.told(False, (self.paper[0], *others, entry))

    def test_flags_of_a_stand(self):
        one = even((flag("detail", "on", "f", ("aa", True)), flag("detail", "on", "g", ("bb", True))), flags=("f", "g"))
        paper = alike(one, one)[1]
        both = ("f", "g")
        self.assertIn((both, both, False, True), [stand for stand, _ in paper])
        self.assertTrue(is_paper(one, one, paper))
        for flags in (("g", "f"), ("f", "g", "f"), ("f", "f"), ("h",), ("f", "h"), "fg", ["f", "g"], ("fg",), ("",)):
            for stand in ((flags, both, False, True), (both, flags, False, True)):
                changed = tuple((stand if entry[0] == (both, both, False, True) else entry[0], entry[1]) for entry in paper)
                self.assertIs(is_paper(one, one, changed), False)
                self.assertIs(is_paper(one, one, (*paper, (stand, ((0,) * 6,)))), False)

    def test_papers_beside_the_plain_check(self):
        found = {True: 0, False: 0}
        for seed in range(30):
            rng = random.Random(seed)
            one = some_even(rng, ("a", "b"), ("f",), LEVELS[:rng.randint(0, 2)])
            paper = alike(one, one)[1]
            for _ in range(6):
                entries = [(stand, [list(vector) for vector in vectors]) for stand, vectors in paper]
                for _ in range(rng.randint(1, 2)):
                    stand, vectors = rng.choice(entries)
                    vector = rng.choice(vectors)
                    word = rng.choice(("number", "drop", "both", "add"))
                    if word == "drop" and len(vectors) > 1:
                        vectors.remove(vector)
                    elif word == "add":
                        vectors.append([rng.randint(-1, 1) for _ in vector])
                    elif word == "both":
                        # The boxes of both stay like each other.
                        vector[2] += 1
                        vector[4] += 1
                    else:
                        vector[rng.randrange(len(vector))] += rng.choice((-1, 1))
                changed = tuple((stand, tuple(tuple(vector) for vector in vectors)) for stand, vectors in entries)
                told = is_paper(one, one, changed)
                found[told] += 1
                self.assertIs(told, plain_is_paper(one, one, changed), (seed, changed))
        self.assertGreater(min(found.values()), 10, found)


class Refused(unittest.TestCase):
    def test_uneven_and_apart(self):
        good = sums("a")
        paper = alike(good, good)[1]
        others = [even(levels=("qty",)), even(flags=("f", "g", "h")), even(levels=("day",)), even(levels=()),
                  even(sources=(Source("other", SOURCES[0].shapes),)), *odd_but()]
        for thing in others:
            for pair in ((good, thing), (thing, good)):
                for asked in (lambda: alike(*pair), lambda: is_paper(*pair, paper), lambda: is_paper(*pair, None),
                              lambda: stepped(*pair, BEGIN, (0,) * 8, None, ())):
                    with self.assertRaises(NoEven) as caught:
                        asked()
                    self.assertIs(type(caught.exception), NoEven)
        for asked in (lambda: alike(others[0], others[0]), lambda: is_paper(others[0], others[0], paper)):
            with self.assertRaises(NoEven):
                asked()

    def test_the_programs_stay(self):
        one, other = sums("a"), sums("b")
        kept = copy.deepcopy((one, other))
        alike(one, other)
        self.assertEqual((one, other), kept)

    def test_records_are_of_the_source(self):
        for one, other in ((even(), even(lines=(line("detail", when=((name, True),)),))) for name in ("aa", "bb", "cc")):
            records = alike(one, other)[1]
            self.assertEqual([record[0] for record in records], [other.lines[0][1][0][0][0]])
        self.assertEqual({len(record) for record in (aa(), bb(), cc())}, {60})


if __name__ == "__main__":
    unittest.main()
