import unittest

from tests.things import number, odd_but, text, wide
from totalround.errors import NoRecord, NoSource
from totalround.shapes import Shape
from totalround.sources import Source, cut_by, is_source, key_of, shape_of

HEAD = Shape("head", (1, "h"), (text("day", 2), number("no", 4)))
ITEM = Shape("item", (1, "i"), (number("no", 10), number("qty", 20), text("day", 30)))
NOTE = Shape("note", (1, "n"), (text("words", 2, 20), number("pages", 30)))
REST = Shape("rest", None, ())
BOOK = Source("book", (HEAD, ITEM, NOTE), by=("no", "day"))
LOOSE = Source("loose", (HEAD, NOTE))


class SourceCase(unittest.TestCase):
    def refused(self, *parts, **named):
        with self.subTest(parts=repr(parts), named=repr(named)), self.assertRaises(NoSource) as caught:
            Source(*parts, **named)
        self.assertIs(type(caught.exception), NoSource)


class Parts(SourceCase):
    def test_fields_are_kept(self):
        self.assertEqual((BOOK.name, BOOK.shapes, BOOK.by), ("book", (HEAD, ITEM, NOTE), ("no", "day")))

    def test_keys_left_out(self):
        self.assertEqual(LOOSE.by, ())
        self.assertTrue(LOOSE == Source("loose", (HEAD, NOTE), by=()))

    def test_keys_by_name_alone(self):
        with self.assertRaises(TypeError):
            Source("book", (HEAD,), ("no",))

    def test_names(self):
        self.assertEqual(Source("abcdef", (REST,)).name, "abcdef")
        for name in ("", "abcdefg", "A", "a1", "a\n"):
            self.refused(name, (REST,))
        for thing in odd_but(str):
            self.refused(thing, (REST,))

    def test_a_source_may_be_called_as_its_shape(self):
        self.assertEqual(Source("rest", (REST,)).shapes, (REST,))

    def test_how_many_shapes(self):
        shapes = tuple(Shape(name, None, ()) for name in "abcde")
        for many in (1, 2, 3, 4):
            self.assertEqual(Source("s", shapes[:many]).shapes, shapes[:many])
        for many in (0, 5):
            self.refused("s", shapes[:many])

    def test_shapes_that_are_no_tuple(self):
        self.refused("s", [REST])
        self.refused("s", REST)
        self.refused("s", {"rest": REST})
        for thing in odd_but():
            self.refused("s", thing)

    def test_things_that_are_no_shapes(self):
        for thing in odd_but() + [("rest", None, ()), LOOSE]:
            self.refused("s", (thing,))
            self.refused("s", (REST, thing))

    def test_two_shapes_of_one_name(self):
        self.refused("s", (REST, REST))
        self.refused("s", (HEAD, NOTE, Shape("head", None, ())))

    def test_a_shape_that_is_none_any_more(self):
        shape = Shape("s", None, ())
        shape.name = ["s"]
        self.refused("s", (shape,))

    def test_a_shape_may_be_changed_later(self):
        shape = Shape("head", (1, "h"), (number("no", 2),))
        source = Source("s", (shape,), by=("no",))
        shape.name = "other"
        shape.mark = (1, "x")
        shape.fields = ()
        self.assertEqual(source.shapes, (Shape("head", (1, "h"), (number("no", 2),)),))
        self.assertEqual(key_of(source, wide("h  7")), (7,))


class FieldsOfOneName(SourceCase):
    def test_alike_in_other_columns(self):
        shapes = (Shape("a", None, (number("n", 1),)), Shape("b", None, (text("t", 1), number("n", 40))))
        self.assertEqual(Source("s", shapes).shapes, shapes)

    def test_another_kind(self):
        self.refused("s", (Shape("a", None, (number("n", 1, 3),)), Shape("b", None, (text("n", 1, 3),))))

    def test_another_length(self):
        self.refused("s", (Shape("a", None, (number("n", 1, 3),)), Shape("b", None, (number("n", 1, 4),))))
        self.refused("s", (Shape("a", None, (text("t", 1, 3),)), Shape("b", None, (text("t", 1, 4),))))

    def test_in_the_last_shape(self):
        first = Shape("a", None, (text("t", 1, 3), number("n", 10)))
        self.refused("s", (first, REST, NOTE, Shape("b", None, (number("m", 1), number("n", 10, 4)))))


class Keys(SourceCase):
    def test_how_many(self):
        fields = tuple(number(name, column) for name, column in zip("abcd", (1, 11, 21, 31)))
        shapes = (Shape("s", None, fields),)
        for many in range(4):
            self.assertEqual(Source("s", shapes, by=tuple("abcd"[:many])).by, tuple("abcd"[:many]))
        self.refused("s", shapes, by=tuple("abcd"))

    def test_one_twice(self):
        self.refused("s", (HEAD,), by=("no", "no"))
        self.refused("s", (HEAD,), by=("no", "day", "no"))

    def test_one_that_no_shape_has(self):
        self.refused("s", (HEAD, ITEM), by=("words",))
        self.refused("s", (REST,), by=("no",))

    def test_one_that_a_shape_has_some_of(self):
        self.refused("s", (HEAD,), by=("no", "qty"))
        self.refused("s", (ITEM, HEAD), by=("no", "qty"))
        self.refused("s", (HEAD, ITEM), by=("no", "qty"))
        self.refused("s", (HEAD, NOTE), by=("no", "words"))
        self.refused("s", (HEAD, ITEM, NOTE, Shape("part", None, (text("day", 1),))), by=("no", "day"))

    def test_keyed_and_loose_together(self):
        for shapes in ((HEAD, NOTE), (NOTE, HEAD), (REST, NOTE, ITEM), (ITEM, HEAD)):
            self.assertEqual(Source("s", shapes, by=("day", "no")).by, ("day", "no"))

    def test_keys_that_are_none(self):
        for thing in odd_but(tuple) + ["no", ["no"], {"no": 1}]:
            self.refused("s", (HEAD,), by=thing)
        for thing in odd_but():
            self.refused("s", (HEAD,), by=(thing,))
            self.refused("s", (HEAD,), by=("no", thing))


class Still(unittest.TestCase):
    def test_sources(self):
        for source in (BOOK, LOOSE, Source("s", (REST,))):
            self.assertIs(is_source(source), True)

    def test_other_things(self):
        for thing in odd_but() + [("loose", (HEAD, NOTE), ()), HEAD, Source]:
            self.assertIs(is_source(thing), False)

    def test_one_that_is_none_any_more(self):
        for part, worth in (("name", "BOOK"), ("shapes", [HEAD]), ("by", ("words",)), ("by", None)):
            source = Source("book", (HEAD,), by=("no",))
            setattr(source, part, worth)
            self.assertIs(is_source(source), False)


class Equality(unittest.TestCase):
    def test_equal_parts(self):
        head = Shape(HEAD.name, HEAD.mark, HEAD.fields)
        one = Source("s", (head, NOTE), by=("no",))
        self.assertTrue(one == Source("s", (HEAD, NOTE), by=("no",)))
        self.assertFalse(one != Source("s", (HEAD, NOTE), by=("no",)))

    def test_other_parts(self):
        one = Source("s", (HEAD, NOTE), by=("no", "day"))
        others = [Source("t", (HEAD, NOTE), by=("no", "day")), Source("s", (NOTE, HEAD), by=("no", "day")),
                  Source("s", (HEAD,), by=("no", "day")), Source("s", (HEAD, NOTE), by=("day", "no")),
                  Source("s", (HEAD, NOTE), by=("no",)), Source("s", (HEAD, NOTE))]
        for other in others:
            self.assertFalse(one == other)
            self.assertTrue(one != other)

    def test_other_things(self):
        for thing in odd_but() + [("loose", (HEAD, NOTE), ()), HEAD]:
            self.assertIs(LOOSE.__eq__(thing), False)


class Reading(unittest.TestCase):
    def refused(self, name, functions, source, record):
        for function in functions:
            with self.subTest(function=function, record=repr(record)), self.assertRaises(NoRecord) as caught:
                function(source, record)
            self.assertIs(type(caught.exception), NoRecord)
            self.assertEqual(caught.exception.name, name)

    def test_each_shape(self):
        self.assertEqual(shape_of(BOOK, wide("h")), "head")
        self.assertEqual(shape_of(BOOK, wide("i")), "item")
        self.assertEqual(shape_of(BOOK, wide("n")), "note")

    def test_the_first_that_fits(self):
        record = wide("h")
        twin = Shape("twin", (1, "h"), ())
        self.assertEqual(shape_of(Source("s", (HEAD, twin, REST)), record), "head")
        self.assertEqual(shape_of(Source("s", (twin, HEAD, REST)), record), "twin")
        self.assertEqual(shape_of(Source("s", (REST, twin, HEAD)), record), "rest")
        self.assertEqual(shape_of(Source("s", (NOTE, ITEM, REST)), record), "rest")

    def test_none_fits(self):
        self.refused("", (shape_of, cut_by, key_of), BOOK, wide("x"))
        self.refused("", (shape_of, cut_by, key_of), LOOSE, wide("i"))
        self.refused("", (shape_of, cut_by, key_of), BOOK, wide("H"))

    def test_what_is_no_record(self):
        for source in (BOOK, LOOSE, Source("s", (REST,))):
            for thing in odd_but() + ["h" * 59, "h" * 61, "h" * 59 + "\n", ["h"] * 60, b"h" * 60]:
                self.refused("", (shape_of, cut_by, key_of), source, thing)

    def test_cut_by(self):
        told = cut_by(BOOK, wide("hmo  7"))
        self.assertEqual(told, ("head", {"day": "mo", "no": 7}))
        self.assertIs(type(told), tuple)
        self.assertEqual(list(told[1]), ["day", "no"])
        self.assertEqual(cut_by(Source("s", (REST, HEAD)), wide("hmo  x")), ("rest", {}))

    def test_cut_by_is_the_askers_own(self):
        record = wide("hmo  7")
        cut_by(BOOK, record)[1].clear()
        self.assertEqual(cut_by(BOOK, record), ("head", {"day": "mo", "no": 7}))

    def test_a_number_that_is_none(self):
        self.refused("no", (cut_by, key_of), BOOK, wide("hmo  x"))
        self.assertEqual(shape_of(BOOK, wide("hmo  x")), "head")

    def test_a_later_shape_would_do(self):
        twin = Shape("twin", (1, "h"), (text("day", 2),))
        for source in (Source("s", (HEAD, twin)), Source("s", (HEAD, REST), by=("no",))):
            self.assertEqual(shape_of(source, wide("hmo  x")), "head")
            self.refused("no", (cut_by, key_of), source, wide("hmo  x"))
        self.assertEqual(cut_by(Source("s", (twin, HEAD)), wide("hmo  x")), ("twin", {"day": "mo"}))

    def test_keys_of_keyed_records(self):
        self.assertEqual(key_of(BOOK, wide("hmo  7")), (7, "mo"))
        item = "i".ljust(9) + " -2".ljust(10) + "  5".ljust(10) + "tu"
        self.assertEqual(key_of(BOOK, wide(item)), (-2, "tu"))
        self.assertEqual(key_of(Source("s", (HEAD,), by=("day",)), wide("h")), ("  ",))
        self.assertIs(type(key_of(BOOK, wide("h"))), tuple)

    def test_loose_records_have_no_key(self):
        self.assertIsNone(key_of(BOOK, wide("nwords")))
        self.assertIsNone(key_of(Source("s", (REST, HEAD), by=("no",)), wide("hmo  7")))

    def test_sources_without_keys(self):
        self.assertIsNone(key_of(LOOSE, wide("hmo  7")))
        self.assertIsNone(key_of(LOOSE, wide("nwords")))

    def test_a_field_that_is_no_key(self):
        item = wide("i".ljust(9) + "  1".ljust(10) + "  x")
        self.refused("qty", (cut_by, key_of), BOOK, item)
        self.refused("pages", (cut_by, key_of), BOOK, wide("n".ljust(29) + "1 2"))
        self.refused("pages", (cut_by, key_of), LOOSE, wide("n".ljust(29) + "1 2"))

    def test_the_first_field_of_several(self):
        item = wide("i".ljust(9) + "  x".ljust(10) + "  x")
        self.refused("no", (cut_by, key_of), BOOK, item)

    def test_a_refusal_leaves_the_source_as_it_was(self):
        source = Source("book", (HEAD, ITEM, NOTE), by=("no", "day"))
        self.refused("", (shape_of, cut_by, key_of), source, None)
        self.refused("no", (cut_by, key_of), source, wide("hmo  x"))
        self.assertTrue(source == BOOK)
