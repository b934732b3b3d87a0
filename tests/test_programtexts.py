import copy
import random
import unittest

from tests.plain import LAYOUTS, some_program
from tests.things import number, odd_but, text
from totalround.errors import NoProgram, NoShape, NoSource, NoText
from totalround.programs import Program
from totalround.programtexts import program_text, read_program
from totalround.reports import report
from totalround.shapes import Shape
from totalround.sources import Source

ITEM = Shape("item", (1, "i"), (text("day", 2, 3), number("qty", 10, 4), number("no", 20)))
NOTE = Shape("note", (60, "~"), (number("no", 1), text("words", 7, 20)))
REST = Shape("rest", None, ())

WHOLE = Program(
    (Source("book", (ITEM, NOTE, REST), by=("no",)), Source("desk", (Shape("x", (2, " "), (number("key", 3),)),), by=("key",)),
     Source("last", (Shape("abcdef", None, (text("q", 60, 1),)),))),
    levels=("day", "no"), boxes=("a", "b"), flags=("f", "g"),
    steps=(("detail", (("item", True), ("g", False)), ("set", "a", ((1, "a"), (-2, "b"), (999, "qty"), (-999, ""), (0, "no")))),
           ("detail", (), ("set", "b", ())),
           ("total", (("L1", True), ("L2", False), ("LR", False)), ("times", "b", "qty", "no")),
           ("total", (("MR", False),), ("on", "f")),
           ("detail", (("f", True),), ("off", "g")),
           ("total", (), ("ask", "under", ((1, "a"),), (), "f")),
           ("total", (), ("ask", "same", (), ((7, ""), (-1, "qty")), "g")),
           ("detail", (), ("ask", "over", ((0, ""),), ((0, ""),), "g")),
           ("detail", (("f", True), ("f", False)), ("leave",))),
    lines=(("total", (("LR", True),), (("text", "Hi"), ("number", "a"), ("number", "qty"), ("words", "words")), ("a", "a", "b")),
           ("detail", (), (), ()),
           ("detail", (("x", False),), (("text", ""),), ())))

WHOLE_TEXT = """\
source book
keys no
shape item 1 105
field day 2 3 text
field qty 10 4 number
field no 20 3 number
shape note 60 126
field no 1 3 number
field words 7 20 text
shape rest
source desk
keys key
shape x 2 32
field key 3 3 number
source last
shape abcdef
field q 60 1 text
levels day no
boxes a b
flags f g
step detail item -g : set a 1*a -2*b 999*qty -999 0*no
step detail : set b none
step total L1 -L2 -LR : times b qty no
step total -MR : on f
step detail f : off g
step total : ask under f 1*a ; none
step total : ask same g none ; 7 -1*qty
step detail : ask over g 0 ; 0
step detail f -f : leave
line total LR : t72.105 n:a n:qty w:words : a a b
line detail : :
line detail -x : t :
"""

# The least program, to which rows are added.
HEAD = "source book\nshape item 1 105\nfield day 2 3 text\nfield qty 10 4 number\n"


class Written(unittest.TestCase):
    def test_every_kind_of_row(self):
        self.assertEqual(program_text(WHOLE), WHOLE_TEXT)

    def test_the_least(self):
        self.assertEqual(program_text(Program((Source("a", (REST,)),))), "source a\nshape rest\n")

    def test_parts_that_there_are(self):
        sources = (Source("a", (ITEM,)),)
        head = program_text(Program(sources))
        self.assertEqual(program_text(Program(sources, levels=("no",))), head + "levels no\n")
        self.assertEqual(program_text(Program(sources, boxes=("x", "y"))), head + "boxes x y\n")
        self.assertEqual(program_text(Program(sources, flags=("z",))), head + "flags z\n")
        self.assertEqual(program_text(Program(sources, lines=(("total", (), (), ()),))), head + "line total : :\n")
        self.assertEqual(program_text(Program(sources, steps=(("total", (), ("leave",)),))), head + "step total : leave\n")

    def test_it_is_a_text_and_the_program_stays(self):
        kept = copy.deepcopy(WHOLE)
        self.assertIs(type(program_text(WHOLE)), str)
        self.assertEqual(WHOLE, kept)


class ReadAgain(unittest.TestCase):
    def again(self, program):
        told = read_program(program_text(program))
        self.assertIs(type(told), Program)
        self.assertEqual(told, program)
        self.assertEqual(program_text(told), program_text(program))

    def test_every_kind_of_row(self):
        self.assertEqual(read_program(WHOLE_TEXT), WHOLE)
        self.again(WHOLE)

    def test_programs_of_all_kinds(self):
        for seed in range(150):
            rng = random.Random(seed)
            self.again(some_program(rng, LAYOUTS[seed % len(LAYOUTS)]))

    def test_reports(self):
        for many in (1, 2):
            self.again(report(LAYOUTS[0][0], LAYOUTS[0][1][:many], "qty", prefix="r"))

    def test_all_signs(self):
        signs = "".join(chr(sign) for sign in range(32, 127) if sign != 37)
        for at in range(0, len(signs), 20):
            self.again(Program((Source("a", (REST,)),), lines=(("total", (), (("text", signs[at:at + 20]),), ()),)))
        for sign in signs:
            self.again(Program((Source("a", (Shape("s", (60, sign), ()),)),)))

    def test_texts_that_look_like_rows(self):
        for signs in ("", " ", "t", ":", "a : b", "n:a", "source book", "  ", "none"):
            self.again(Program((Source("a", (REST,)),), lines=(("total", (), (("text", signs),) * 8, ()),)))

    def test_names_like_words(self):
        fields = (text("t", 2), number("n", 5), number("keys", 9), text("text", 13))
        sources = (Source("source", (Shape("shape", None, fields),), by=("keys",)),)
        self.again(Program(
            sources, levels=("text",), boxes=("none", "ask", "set"), flags=("on", "off"),
            steps=(("total", (("on", True), ("off", False), ("shape", True)), ("set", "none", ((1, "none"), (2, "keys")))),
                   ("total", (), ("on", "on")), ("total", (), ("times", "set", "n", "n")),
                   ("detail", (), ("ask", "same", ((1, "none"),), (), "off"))),
            lines=(("total", (), (("words", "t"), ("number", "n"), ("words", "text"), ("number", "ask")), ("none",)),)))

    def test_each_bound(self):
        shapes = tuple(Shape("s" * k, (40, "abcd"[k - 1]), tuple(number("f" * j, j, 1) for j in range(1, 7))
                             + (number("g", 51, 9), text("h", 20, 20))) for k in (1, 2, 3, 4))
        conditions = (("s", True), ("ff", False), ("L3", True))
        sums = ((2, "a"), (-2, "b"), (999, "f"), (-999, "f"), (999, ""), (-999, ""))
        self.again(Program(
            tuple(Source("p" * k, (Shape("t" * k, None, ()),)) for k in (1, 2, 3)) + (Source("q", shapes, by=("f", "g", "h")),),
            levels=("h", "g", "fff"), boxes=tuple("abcdijkl"), flags=("x", "y", "z"),
            steps=(("total", conditions[:1] + (("L3", False), ("MR", True)), ("set", "a", sums)),) * 59
            + (("detail", (), ("ask", "over", sums, sums, "z")),),
            lines=(("detail", (), (("text", "x" * 20),) * 8, ("a",) * 8),) * 12))


class Rows(unittest.TestCase):
    """Behind HEAD, which has four rows, boxes and flags, each row by itself."""

    TAIL = "boxes a b\nflags f g\n"

    def good(self, row, head=HEAD + TAIL):
        with self.subTest(row=row):
            self.assertEqual(program_text(read_program(head + row + "\n")), head + row + "\n")

    def refused(self, at, given):
        with self.subTest(text=given), self.assertRaises(NoText) as caught:
            read_program(given)
        self.assertIs(type(caught.exception), NoText)
        self.assertEqual(caught.exception.row, at)

    def bad(self, row, head=HEAD + TAIL):
        """The row is none, whatever stands behind it."""
        at = head.count("\n")
        self.refused(at, head + row + "\n")
        self.refused(at, head + row)
        self.refused(at, head + row + "\nline detail : :\n")
        self.refused(at, head + row + "\n\nnothing\n")

    def wrong(self, row, head=HEAD + TAIL):
        """The row is one by its words, but makes no program."""
        with self.subTest(row=row), self.assertRaises(NoProgram) as caught:
            read_program(head + row + "\n")
        self.assertIs(type(caught.exception), NoProgram)

    def test_sums(self):
        for words in ("none", "7", "-7", "0", "1*a", "-2*b", "0*a", "999*qty", "-999*qty", "1*a 1*a 1 1 2*qty -3"):
            self.good("step total : set a " + words)
        for words in ("", "none none", "none 1", "1 none", "1*none*a", "1*a*b", "*a", "1*", "a", "a*1", "1a", "1 * a", "1 *a",
                      "+1", "+1*a", "-0", "-0*a", "00", "01", "-01", "007*a", "10000", "-10000", "12345*a", "--1", "-", "1*A",
                      "1*abcdefg", "1*a1", "1.5", "1,", "1  2", " 1", "1 ", "1*a ", "1*-a", "0x1", "1_0", "1*L1", "NONE",
                      "1\t2", "1;2", "1 ;", "\u0661", "\u00b2", ": 1", "1 : 2"):
            self.bad(("step total : set a " + words))
        for words in ("1000", "-1000*qty", "9999", "3*a", "-3*b", "1*none", "1*f", "1*day", "1*item", "1*zz", "1 2 3 4 5 6 7"):
            self.wrong("step total : set a " + words)

    def test_deeds(self):
        for words in ("set a none", "times a qty qty", "on f", "off g", "leave", "ask under f 1 ; 2", "ask same g none ; none",
                      "ask over f 1*a 2 ; 3*qty"):
            self.good("step total : " + words)
            self.good("step detail f : " + words)
        for words in ("", "set", "set a", "set 1", "set A 1", "set abcdefg 1", "times", "times a", "times a qty", "times a qty qty qty",
                      "times a 1 qty", "times 1*a qty qty", "on", "on f g", "on F", "on L1", "off", "off f f", "off -f", "leave now",
                      "leave leave", "Leave", "go", "ask", "ask under", "ask under f", "ask under f 1", "ask under f 1 2",
                      "ask under f 1 ;", "ask under f ; 1", "ask under f ;", "ask under 1 ; 2", "ask f 1 ; 2", "ask above f 1 ; 2",
                      "ask under F 1 ; 2", "ask under f g 1 ; 2", "ask under f 1 ; 2 ; 3", "ask under f 1 ; ; 2", "ask under f 1; 2",
                      "ask under f none 1 ; 2", "ask under f 1 ; 2 f", "on f :", ": on f", "on f leave"):
            self.bad("step total : " + words)
        for words in ("set f 1", "set qty 1", "times a day qty", "times a a qty", "times qty qty qty", "on a", "off zz",
                      "ask under a 1 ; 2", "ask under f 1*zz ; 2", "ask under f 1 ; 3*a"):
            self.wrong("step total : " + words)

    def test_conditions(self):
        for words in ("f", "-f", "item", "-item", "MR", "-MR", "LR", "-LR", "f f -f", "f item MR"):
            self.good(f"step total {words} : leave")
            self.good(f"line detail {words} : :")
        head = HEAD + "levels day qty\n" + self.TAIL
        for words in ("L1", "L2", "-L2", "-L1 L2"):
            self.good(f"step total {words} : leave", head)
        for words in ("-", "--f", "+f", "F", "L0", "L4", "-L4", "L", "L11", "l1", "1", "MR1", "M", "R", "mR", "abcdefg", "-abcdefg",
                      "f, g", "f -", "", " f", "f ", "f  g", "f- g", "L 1", "!f", "n:f", "f;"):
            self.bad(f"step total {words} : leave")
            self.bad(f"line total {words} : :")
        for words in ("L1", "-L3", "zz", "a", "qty", "book", "mr", "lr", "f f f f"):
            self.wrong(f"step total {words} : leave")
            self.wrong(f"line total {words} : :")

    def test_parts(self):
        for words in ("t", "t72.105", "t32", "t126", "t32.32", "n:a", "n:qty", "w:day", "t n:a w:day t n:b t45 t t"):
            self.good(f"line total : {words} :")
            self.good(f"line total : {words} : a b a")
        for words in ("t31", "t127", "t0", "t10", "t-32", "t032", "t1000", "t32.", "t.32", "t32..33", "t.", "t32.127", "t32.31.32", "t32,33",
                      "tx", "T32", "t 32", "t32 ", "t  t", "n", "n:", "n:A", "n:1", "n:abcdefg", "n: a", "n:a:b", "n:a.", "w", "w:",
                      "w:Day", "W:day", "N:a", "x:a", "a", "32", "n:-a", "-n:a", ":", "n;a", "ta", "t:", "t:a"):
            self.bad(f"line total : {words} :")
        for words in ("n:day", "n:f", "n:zz", "n:item", "w:qty", "w:a", "w:zz", "t" + ".".join(["32"] * 21), "t t t t t t t t t"):
            self.wrong(f"line total : {words} :")

    def test_cleared(self):
        for words in ("a", "b", "a b", "a a a a a a a a"):
            self.good(f"line total : t : {words}")
        for words in ("A", "-a", "1", "a  b", "a ", " a", "abcdefg", "n:a", "a :", ": a", "none,", "L1", "a, b"):
            self.bad(f"line total : t : {words}")
        for words in ("f", "qty", "zz", "none", "a " * 8 + "a"):
            self.wrong(f"line total : t : {words}")

    def test_steps_and_lines(self):
        for words in ("step", "step total", "step total :", "step total leave", "step : leave", "step Total : leave", "step both : leave",
                      "step now : leave", "step total : : leave", "step total : leave :",
                      "step total: leave", "step total :leave", "steps total : leave", "Step total : leave",
                      "line", "line total", "line total :", "line total : : :", "line total : t : a : b", "line : :", "line now : :",
                      "line total t : a", "line total::", "line total ::", "line total : :a", "lines total : :", ": :",
                      "line total : : ", " line total : :", "line  total : :", "line total  : :", "line total :  :"):
            self.bad(words)
        # A time is a name too, so these are conditions.
        self.wrong("step total detail : leave")
        self.wrong("line total total : :")

    def test_names(self):
        for word in ("levels", "boxes", "flags"):
            for names in ("", "A", "a1", "abcdefg", "a  b", "a ", "a, b", "-a", "a:b", "L1", "a b c1", "1", "\u00e9", "a\tb"):
                self.bad(f"{word} {names}", HEAD)
            self.bad(word, HEAD)
            self.bad(word.upper() + " a", HEAD)
        self.good("levels day", HEAD)
        self.good("boxes abcdef a", HEAD)
        self.good("flags a b c", HEAD)
        for row in ("levels zz", "levels day day", "levels day qty day", "boxes a a", "boxes qty", "boxes item", "flags a b c d", "flags f f",
                    "boxes a b c d e f g h i", "flags day"):
            self.wrong(row, HEAD)

    def test_sources_and_keys(self):
        for row in ("source", "source a b", "source A", "source abcdefg", "source 1", "source  a", "source a ", "Source a", "sources a",
                    "source -a", "keys", "keys A", "keys day  qty", "keys day abcdefg", "keys day,", "key day"):
            self.bad(row, "source book\n")
        self.good("source other\nshape x", HEAD)
        self.assertEqual(read_program("source abcdef\nkeys day\nshape s\nfield day 1 20 text\n").sources,
                         (Source("abcdef", (Shape("s", None, (text("day", 1, 20),)),), by=("day",)),))

    def test_shapes(self):
        for row in ("shape", "shape A", "shape abcdefg", "shape a 1", "shape a 1 32 1", "shape a 1 31", "shape a 1 127", "shape a 1 0",
                    "shape a 1 -32", "shape a 1 032", "shape a 01 32", "shape a -0 32", "shape a x 32", "shape a 1 x", "shape a  1 32",
                    "shape a 1 32 ", "shape 1 32", "shape a 10000 32", "shape a +1 32", "shape a 1 1000", "shape a 1.0 32", "Shape a",
                    "shape a None", "shape a b", "shape A 1 32", "shape abcdefg 1 32", "shape - 1 32"):
            self.bad(row, "source book\n")
        for row in ("shape a", "shape abcdef 60 126", "shape a 1 32"):
            self.good(row, "source book\n")

    def test_fields(self):
        head = "source book\nshape item\n"
        for row in ("field", "field a", "field a 1", "field a 1 2", "field a 1 2 text x", "field A 1 2 text", "field abcdefg 1 2 text",
                    "field a 01 2 text", "field a 1 02 text", "field a -0 2 text", "field a 1 -0 text", "field a 1 2 words", "field a 1 2 Text",
                    "field a 1 2 texts", "field a x 2 text", "field a 1 x text", "field a 12345 2 text", "field a 1 12345 number",
                    "field a +1 2 text", "field  a 1 2 text", "field a 1 2 text ", "fields a 1 2 text", "field 1 2 text"):
            self.bad(row, head)
        for row in ("field a 1 2 text", "field abcdef 60 1 number", "field a 1 20 text", "field a 1 9 number"):
            self.good(row, head)

    def test_the_sign_of_number_37_is_not_read(self):
        # No text of the package may have it, so such a row can't be read.
        self.bad("shape a 1 37", "source book\n")
        self.bad("line total : t37 :")


class Order(unittest.TestCase):
    ROWS = {
        "source": "source a", "keys": "keys no", "shape": "shape s", "field": "field no 1 2 number", "levels": "levels no",
        "boxes": "boxes b", "flags": "flags f", "step": "step total : leave", "line": "line total : :",
    }
    # For each kind what may stand behind it.
    MAY = {
        "source": "source keys shape levels boxes flags step line", "keys": "source shape levels boxes flags step line",
        "shape": "source shape field levels boxes flags step line", "field": "source shape field levels boxes flags step line",
        "levels": "boxes flags step line", "boxes": "flags step line", "flags": "step line", "step": "step line", "line": "line",
    }
    # For each kind the rows with which a text begins that ends by it.
    AHEAD = {
        "source": "source", "keys": "source keys", "shape": "source shape", "field": "source shape field",
        "levels": "source shape levels", "boxes": "source shape boxes", "flags": "source flags", "step": "source step",
        "line": "source shape field line",
    }

    def row(self, given):
        """The row that is told, None where the text is one by its rows."""
        try:
            read_program(given)
        except NoText as error:
            return error.row
        except (NoShape, NoSource, NoProgram):
            return None

    def text(self, kinds):
        return "".join(self.ROWS[kind] + "\n" for kind in kinds)

    def test_the_first_row(self):
        for kind in self.ROWS:
            self.assertEqual(self.row(self.text([kind, "shape"])), None if kind == "source" else 0, kind)

    def test_each_behind_each(self):
        for ahead in self.ROWS:
            rows = self.AHEAD[ahead].split()
            self.assertIsNone(self.row(self.text(rows)))
            for behind in self.ROWS:
                told = self.row(self.text([*rows, behind]))
                self.assertEqual(told, None if behind in self.MAY[ahead].split() else len(rows), (ahead, behind))

    def test_nothing_at_all(self):
        for given in ("", "\n", "\n\n", "\nsource a\n", " ", "\r\n"):
            self.assertEqual(self.row(given), 0)

    def test_things_that_are_no_text(self):
        for thing in odd_but(str) + [[WHOLE_TEXT], WHOLE_TEXT.encode(), (WHOLE_TEXT,), WHOLE]:
            with self.assertRaises(NoText) as caught:
                read_program(thing)
            self.assertIs(type(caught.exception), NoText)
            self.assertEqual(caught.exception.row, 0)

    def test_the_last_line_feed(self):
        rows = WHOLE_TEXT.splitlines()
        for many in range(1, len(rows) + 1):
            self.assertEqual(self.row("\n".join(rows[:many])), many)
        self.assertEqual(self.row("source a"), 1)
        self.assertEqual(self.row("source a\nshape s"), 2)
        # The row itself goes ahead of its line feed.
        self.assertEqual(self.row("source a\nshape"), 1)
        self.assertEqual(self.row("levels a"), 0)

    def test_rows_of_none(self):
        rows = WHOLE_TEXT.splitlines()
        for at in range(len(rows) + 1):
            for none in ("", " ", "#", "source", "x y", "\t", "\r", "step total : leave "):
                given = "".join(row + "\n" for row in [*rows[:at], none, *rows[at:]])
                self.assertEqual(self.row(given), at, (at, none))

    def test_each_row_changed(self):
        rows = WHOLE_TEXT.splitlines()
        for at, row in enumerate(rows):
            for other in (row + " ", " " + row, row.replace(" ", "  ", 1), row.upper(), row.replace(" ", "\t", 1), row + "\r",
                          row.replace(" ", "\u00a0", 1), row + " :", row + " 0x", row[1:], row + "\x0c", row + "\v", row + "\x85"):
                given = "".join(each + "\n" for each in [*rows[:at], other, *rows[at + 1:]])
                self.assertEqual(self.row(given), at, other)

    def test_other_ends_of_rows(self):
        for end in ("\r\n", "\r", "\v", "\f", "\u2028", "\n\r", "; ", " \n", "\n "):
            given = WHOLE_TEXT.replace("\n", end)
            self.assertEqual(self.row(given), 1 if end in ("\n\r", "\n ") else 0, repr(end))

    def test_two_line_feeds(self):
        self.assertEqual(self.row("source a\n\nshape s\n"), 1)
        self.assertEqual(self.row("source a\nshape s\n\n"), 2)
        self.assertEqual(self.row("source a\nshape s\n\n\n"), 2)

    def test_the_first_of_several(self):
        self.assertEqual(self.row("source a\nlevels b\nshape s\nx\n"), 2)
        self.assertEqual(self.row("source a\nx\nlevels B\nshape s"), 1)
        self.assertEqual(self.row("source a\nline total : :\nstep total : leave\nboxes a\n"), 2)


class Made(unittest.TestCase):
    def refused(self, kind, given):
        with self.subTest(text=given), self.assertRaises(kind) as caught:
            read_program(given)
        self.assertIs(type(caught.exception), kind)

    BAD_SHAPE = "shape s 61 32\n"
    BAD_SOURCE = "shape t\nshape t\n"

    def test_no_shape(self):
        for rows in ("shape s 0 32\n", "shape s -1 32\n", "shape s 61 32\n", "shape s 2 32\nfield a 1 2 text\n",
                     "shape s\nfield a 1 0 text\n", "shape s\nfield a 0 1 text\n", "shape s\nfield a 1 21 text\n",
                     "shape s\nfield a 1 10 number\n", "shape s\nfield a 60 2 text\n", "shape s\nfield a 1 2 text\nfield a 4 2 text\n",
                     "shape s\nfield a 1 2 text\nfield b 2 2 text\n", "shape s\nfield a 9999 9999 number\n", "shape s\nfield a -5 -5 text\n",
                     "shape s\n" + "".join(f"field {'a' * k} {k} 1 text\n" for k in range(1, 7))
                     + "".join(f"field {'b' * k} {k + 10} 1 text\n" for k in range(1, 4))):
            self.refused(NoShape, "source a\n" + rows)
            self.refused(NoShape, "source a\nshape ok\n" + rows + "levels zz\n")

    def test_no_source(self):
        for rows in ("", "keys a\n", "shape s\nshape s\n", "keys a\nshape s\n", "keys a a\nshape s\nfield a 1 2 text\n",
                     "keys a b\nshape s\nfield a 1 2 text\n", "shape a\nshape b\nshape c\nshape d\nshape e\n",
                     "shape s 1 32\nfield a 2 2 text\nshape t\nfield a 2 3 text\n",
                     "keys a b c d\nshape s\nfield a 1 1 text\nfield b 2 1 text\nfield c 3 1 text\nfield d 4 1 text\n"):
            self.refused(NoSource, "source a\n" + rows)
            self.refused(NoSource, "source a\n" + rows + "boxes x x\n")
            self.refused(NoSource, "source b\nshape ok\nsource a\n" + rows + "source b\nshape ok\n")

    def test_no_program(self):
        for rows in ("source a\nshape t\n", "source b\nshape s\n", "source b\nshape t\nsource c\nshape u\nsource d\nshape v\nsource e\nshape w\n",
                     "levels x\n", "boxes s\n", "boxes x\nflags x\n", "step total : on f\n", "line total : n:x :\n",
                     "step total : leave\n" * 61, "line total : :\n" * 13):
            self.refused(NoProgram, "source a\nshape s\n" + rows)

    def test_as_many_as_there_may_be(self):
        read_program("source a\nshape s\n" + "step total : leave\n" * 60 + "line total : :\n" * 12)

    def test_source_by_source(self):
        shape, source = self.BAD_SHAPE, self.BAD_SOURCE
        self.refused(NoShape, "source a\n" + source + shape)
        self.refused(NoShape, "source a\n" + shape + "source b\n" + source)
        self.refused(NoSource, "source a\n" + source + "source b\n" + shape)
        self.refused(NoSource, "source a\nsource b\n" + shape)
        self.refused(NoShape, "source a\nshape s\nsource b\n" + shape + "source c\n")
        self.refused(NoSource, "source a\nshape s\nsource a\n" + source)
        self.refused(NoShape, "source a\nshape s\nsource a\nshape s\n" + shape + "levels q q\n")

    def test_rows_go_ahead_of_all(self):
        for rows in (self.BAD_SHAPE, self.BAD_SOURCE, "", "shape s\nboxes s\n"):
            with self.assertRaises(NoText) as caught:
                read_program("source a\n" + rows + "step total : go\n")
            self.assertEqual(caught.exception.row, 1 + rows.count("\n"))


if __name__ == "__main__":
    unittest.main()
