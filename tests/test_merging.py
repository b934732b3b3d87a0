import copy
import itertools
import unittest

from tests.things import number, odd_but, text, wide
from totalround.errors import NoOrder, NoRecord, NoSource
from totalround.merging import is_sources, ordered
from totalround.shapes import Shape
from totalround.sources import Source

ITEM = Shape("item", (1, "i"), (number("no", 2), number("qty", 10)))
NOTE = Shape("note", (1, "n"), (number("pages", 10),))
PART = Shape("part", (1, "p"), (text("word", 5, 4), number("id", 20)))
MEMO = Shape("memo", (1, "m"), ())
REST = Shape("rest", None, ())

# Both have keys that are numbers, and loose records besides.
A = Source("a", (ITEM, NOTE), by=("no",))
B = Source("b", (PART, MEMO), by=("id",))
# One without keys, and a third with keys.
C = Source("c", (REST,))
D = Source("d", (Shape("unit", (1, "u"), (number("unitno", 30),)), MEMO), by=("unitno",))
PLAIN = (Source("a", (REST,)), Source("b", (REST,)), Source("c", (REST,)))

LETTERS = {"a": "in", "b": "pm", "d": "um"}


def item(key, qty=0):
    return wide("i" + str(key).rjust(3) + str(qty).rjust(8))


def part(key):
    return wide("p".ljust(19) + str(key).rjust(3))


def unit(key):
    return wide("u".ljust(29) + str(key).rjust(3))


NOTED = wide("n")
MEMOED = wide("m")


def read(sources, rows):
    """The order of reading, each record as its source's name and its row's number."""
    return [name + str(at) for name, at, _, _ in ordered(sources, rows)]


def matched(sources, rows):
    """The records that match, each as its source's name and its row's number."""
    found = []
    for name, at, _, matches in ordered(sources, rows):
        if matches is True:
            found.append(name + str(at))
        elif matches is not False:
            raise AssertionError(matches)
    return found


def keyed_by(field):
    """A source with one key alone, and a function that lays the key's signs."""
    return Source("a", (Shape("s", None, (field,)),), by=(field[0],)), lambda signs: wide(" " * (field[1] - 1) + signs)


class Sources(unittest.TestCase):
    def told(self, worth, thing):
        with self.subTest(thing=repr(thing)):
            self.assertIs(is_sources(thing), worth)

    def test_how_many(self):
        five = tuple(Source(name, (REST,)) for name in "abcde")
        for many in range(6):
            self.told(1 <= many <= 4, five[:many])

    def test_no_tuple(self):
        for thing in odd_but() + [[A], A, {"a": A}, [A, B], iter((A,)), Source]:
            self.told(False, thing)

    def test_things_that_are_no_sources(self):
        for thing in odd_but() + [("a", (ITEM,), ()), ITEM, (A,), Source]:
            self.told(False, (thing,))
            self.told(False, (A, thing))
            self.told(False, (thing, A))

    def test_a_source_that_is_none_any_more(self):
        source = Source("b", (REST,))
        self.told(True, (A, source))
        source.shapes = [REST]
        self.told(False, (A, source))

    def test_two_of_one_name(self):
        self.told(False, (C, C))
        self.told(False, (A, C, Source("a", (REST,))))
        self.told(True, (Source("a", (REST,)), Source("b", (REST,))))

    def test_shapes_of_one_name_in_two_sources(self):
        self.told(True, (Source("a", (ITEM,)), Source("b", (ITEM, REST))))

    def keyed(self, name, *fields):
        shape = Shape("s", None, fields)
        return Source(name, (shape,), by=tuple(field[0] for field in fields))

    def test_how_many_keys(self):
        one = self.keyed("a", text("k", 1), text("l", 5))
        self.told(True, (one, self.keyed("b", text("m", 1), text("n", 5))))
        self.told(False, (one, self.keyed("b", text("m", 1))))
        self.told(False, (one, self.keyed("b", text("m", 1), text("n", 5), text("o", 9))))
        self.told(False, (self.keyed("b", text("m", 1)), one))

    def test_kinds_of_keys(self):
        one = self.keyed("a", text("k", 1), number("l", 5, 2))
        self.told(True, (one, self.keyed("b", text("m", 20), number("n", 40, 2))))
        self.told(False, (one, self.keyed("b", text("m", 1), text("n", 5))))
        self.told(False, (one, self.keyed("b", number("m", 1, 2), number("n", 5, 2))))
        self.told(False, (one, self.keyed("b", number("m", 1, 2), text("n", 5))))

    def test_lengths_of_keys(self):
        one = self.keyed("a", text("k", 1, 3), number("l", 5, 4))
        self.told(True, (one, self.keyed("b", text("m", 1, 3), number("n", 5, 4))))
        self.told(False, (one, self.keyed("b", text("m", 1, 2), number("n", 5, 4))))
        self.told(False, (one, self.keyed("b", text("m", 1, 3), number("n", 5, 5))))

    def test_keys_stand_in_the_order_of_by(self):
        fields = (text("k", 1, 3), number("l", 5, 4))
        one = Source("a", (Shape("s", None, fields),), by=("k", "l"))
        self.told(True, (one, Source("b", (Shape("s", None, fields[::-1]),), by=("k", "l"))))
        self.told(False, (one, Source("b", (Shape("s", None, fields),), by=("l", "k"))))

    def test_keys_of_a_later_shape(self):
        one = self.keyed("a", text("k", 1, 3))
        for length in (3, 4):
            other = Source("b", (MEMO, Shape("t", (1, "t"), (text("j", 2, length),))), by=("j",))
            self.told(length == 3, (one, other))

    def test_one_with_keys_beside_some_without(self):
        self.told(True, (A, C))
        self.told(True, (C, A, Source("e", (MEMO,)), B))

    def test_the_last_two_of_four(self):
        one = self.keyed("a", text("k", 1, 3))
        for length in (3, 4):
            self.told(length == 3, (C, one, Source("e", (REST,)), self.keyed("b", text("m", 1, length))))

    def test_fields_of_one_name(self):
        for field in (number("qty", 10, 3), number("qty", 40, 3)):
            self.told(True, (A, Source("e", (Shape("s", None, (field,)),))))
        for field in (text("qty", 10, 3), number("qty", 10, 4), number("qty", 10, 2)):
            self.told(False, (A, Source("e", (Shape("s", None, (field,)),))))
            self.told(False, (Source("e", (REST, Shape("s", None, (field,)))), C, A))


class Order(unittest.TestCase):
    def test_without_keys(self):
        rows = {"a": [wide("x")], "b": [wide("y"), wide("z")], "c": [wide("")] * 2}
        self.assertEqual(ordered(PLAIN, rows), [
            ("a", 0, "rest", False), ("b", 0, "rest", False), ("b", 1, "rest", False),
            ("c", 0, "rest", False), ("c", 1, "rest", False)])

    def test_what_is_told_of_each(self):
        told = ordered((A, B), {"a": [NOTED, item(2)], "b": [part(1), part(2), MEMOED]})
        self.assertEqual(told, [("a", 0, "note", False), ("b", 0, "part", False), ("a", 1, "item", True),
                                ("b", 1, "part", True), ("b", 2, "memo", False)])
        self.assertIs(type(told), list)
        for record in told:
            self.assertEqual([type(thing) for thing in record], [str, int, str, bool])

    def test_rows_that_lack_and_empty_ones(self):
        self.assertEqual(ordered((A, B), {}), [])
        self.assertEqual(ordered((A, B), {"a": [], "b": []}), [])
        self.assertEqual(ordered((C,), {}), [])
        self.assertEqual(read((A, B, C), {"b": [part(3)]}), ["b0"])
        self.assertEqual(read((A, B, C), {"a": [item(4)], "b": [], "c": [wide("")]}), ["c0", "a0"])

    def test_other_names_in_rows(self):
        rows = {"a": [item(1)], "z": [None], "A": 7, 3: [item(0)], None: "x", "item": [item(0)]}
        self.assertEqual(read((A, B), rows), ["a0"])

    def test_the_order_of_the_names_in_rows(self):
        parts = {"a": [item(1), NOTED, item(3)], "b": [part(1), part(2)], "c": [wide("")]}
        told = ordered((A, B, C), parts)
        for names in itertools.permutations("abc"):
            self.assertEqual(ordered((A, B, C), {name: parts[name] for name in names}), told)

    def test_the_order_of_the_sources(self):
        rows = {"a": [item(1), NOTED], "b": [part(1), MEMOED]}
        self.assertEqual(read((A, B), rows), ["a0", "a1", "b0", "b1"])
        self.assertEqual(read((B, A), rows), ["b0", "b1", "a0", "a1"])

    def test_least_key_first(self):
        rows = {"a": [item(1), item(4), item(6)], "b": [part(2), part(3), part(5)]}
        self.assertEqual(read((A, B), rows), ["a0", "b0", "b1", "a1", "b2", "a2"])

    def test_three_with_keys_and_one_without(self):
        rows = {"a": [item(3)], "b": [part(2)], "d": [unit(1), unit(4)], "c": [wide("")] * 2}
        self.assertEqual(read((A, B, C, D), rows), ["c0", "c1", "d0", "b0", "a0", "d1"])

    def test_like_keys_in_one_source(self):
        self.assertEqual(read((A,), {"a": [item(2), item(2), item(2)]}), ["a0", "a1", "a2"])

    def test_like_keys_in_several(self):
        rows = {"a": [item(2), item(2), item(3)], "b": [part(2), part(2), part(2)]}
        self.assertEqual(read((A, B), rows), ["a0", "a1", "b0", "b1", "b2", "a2"])
        self.assertEqual(read((B, A), rows), ["b0", "b1", "b2", "a0", "a1", "a2"])

    def test_loose_ones_of_a_later_source(self):
        rows = {"a": [item(1), item(2)], "b": [MEMOED, MEMOED, part(1), MEMOED]}
        self.assertEqual(read((A, B), rows), ["b0", "b1", "a0", "b2", "b3", "a1"])

    def test_loose_ones_ahead_between_and_behind(self):
        rows = {"a": [NOTED, item(5), NOTED, item(5), NOTED], "b": [part(1), part(9)]}
        self.assertEqual(read((A, B), rows), ["a0", "b0", "a1", "a2", "a3", "a4", "b1"])

    def test_loose_ones_of_two_sources(self):
        rows = {"a": [NOTED, NOTED, item(1)], "b": [MEMOED, part(0), MEMOED]}
        self.assertEqual(read((A, B), rows), ["a0", "a1", "b0", "b1", "b2", "a2"])
        self.assertEqual(read((B, A), rows), ["b0", "a0", "a1", "b1", "b2", "a2"])

    def test_a_loose_one_waits_behind_its_keyed_one(self):
        rows = {"a": [item(1)], "b": [part(2), MEMOED]}
        self.assertEqual(read((B, A), rows), ["a0", "b0", "b1"])

    def test_a_source_without_keys_is_read_first(self):
        shape = Shape("other", None, (number("no", 2),))
        rows = {"a": [item(1), item(2)], "e": [wide("   9"), wide("   0")]}
        self.assertEqual(read((A, Source("e", (shape,))), rows), ["e0", "e1", "a0", "a1"])

    def test_a_shape_is_the_first_that_fits(self):
        source = Source("a", (MEMO, ITEM, Shape("twin", (1, "i"), ())), by=("no",))
        told = ordered((source,), {"a": [item(1), MEMOED]})
        self.assertEqual([record[2] for record in told], ["item", "memo"])

    def test_asked_again(self):
        rows = {"a": [item(1), NOTED], "b": [part(1)]}
        told = ordered((A, B), rows)
        kept = list(told)
        told.clear()
        self.assertEqual(ordered((A, B), rows), kept)

    def test_rows_may_be_changed_later(self):
        rows = {"a": [item(1)], "b": [part(1)]}
        told = ordered((A, B), rows)
        rows["a"].clear()
        rows["b"] = None
        self.assertEqual(told, [("a", 0, "item", True), ("b", 0, "part", True)])


class Keys(unittest.TestCase):
    def sorted_as(self, field, *signs):
        """Each sign is of another key, in rising order: no pair of them may stand the other way round."""
        source, laid = keyed_by(field)
        for one, two in itertools.combinations(signs, 2):
            with self.subTest(one=one, two=two):
                self.assertEqual(read((source,), {"a": [laid(one), laid(two)]}), ["a0", "a1"])
                with self.assertRaises(NoOrder):
                    ordered((source,), {"a": [laid(two), laid(one)]})

    def same(self, field, *signs):
        source, laid = keyed_by(field)
        twin = Source("b", source.shapes, by=source.by)
        for one, two in itertools.permutations(signs, 2):
            with self.subTest(one=one, two=two):
                self.assertEqual(read((source,), {"a": [laid(one), laid(two)]}), ["a0", "a1"])
                self.assertEqual(matched((source, twin), {"a": [laid(one)], "b": [laid(two)]}), ["a0", "b0"])

    def test_texts_by_their_signs(self):
        self.sorted_as(text("t", 5, 3), "   ", "  a", " a ", " ab", "!  ", "0  ", "10 ", "9  ", "A  ", "Z  ", "_a ",
                       "a  ", "a a", "aZ ", "ab ", "b  ", "{  ", "~  ", "~~~")

    def test_numbers_by_size(self):
        self.sorted_as(number("n", 5, 3), "-99", "-10", " -9", " -1", "  0", "  1", "  9", " 10", "100", "999")

    def test_numbers_written_otherwise(self):
        self.same(number("n", 5, 3), "  7", " 07", "007")
        self.same(number("n", 5, 3), "  0", "   ", " -0", "-00", "000")
        self.same(number("n", 5, 3), " -7", "-07")
        self.sorted_as(number("n", 5, 3), "-02", " -1", "   ", "001", "  2", "010")

    def test_both_kinds_together(self):
        shape = Shape("s", None, (number("n", 1, 2), text("t", 3, 2)))
        one = Source("a", (shape,), by=("n", "t"))
        two = Source("b", (Shape("r", None, (text("u", 1), number("o", 5, 2))),), by=("o", "u"))
        rows = {"a": [wide("-1zz"), wide(" 2aa"), wide("10aa")], "b": [wide("zz   0"), wide("ab  02"), wide("bb   2")]}
        self.assertEqual(read((one, two), rows), ["a0", "b0", "a1", "b1", "b2", "a2"])
        other = Source("a", (shape,), by=("t", "n"))
        with self.assertRaises(NoOrder) as caught:
            ordered((other,), rows)
        self.assertEqual((caught.exception.name, caught.exception.at), ("a", 1))

    def test_the_later_key_counts_where_the_first_is_like(self):
        shape = Shape("s", None, (text("t", 1), text("u", 3), number("n", 5)))
        source = Source("a", (shape,), by=("t", "u", "n"))
        good = [wide("aabb  1"), wide("aabb  2"), wide("aabc  0"), wide("ab      ")]
        self.assertEqual(read((source,), {"a": good}), ["a0", "a1", "a2", "a3"])
        for at in range(3):
            with self.assertRaises(NoOrder) as caught:
                ordered((source,), {"a": [good[at + 1], good[at]]})
            self.assertEqual(caught.exception.at, 1)


def plain_merge(queues):
    """The plain merge by keys, None of a loose record: pairs of a queue's number and a row's."""
    left = [list(enumerate(queue)) for queue in queues]
    told = []
    while any(left):
        which = next((k for k, queue in enumerate(left) if queue and queue[0][1] is None), None)
        if which is None:
            least = min(queue[0][1] for queue in left if queue)
            which = next(k for k, queue in enumerate(left) if queue and queue[0][1] == least)
        told.append((which, left[which].pop(0)[0]))
    return told


class PlainMerge(unittest.TestCase):
    LAID = {"a": (item, NOTED), "b": (part, MEMOED), "d": (unit, MEMOED)}

    def queues(self, most, keys):
        for many in range(most + 1):
            for queue in itertools.product((None, *keys), repeat=many):
                held = [key for key in queue if key is not None]
                if held == sorted(held):
                    yield queue

    def check(self, sources, queues):
        rows = {}
        for source, queue in zip(sources, queues):
            keyed, loose = self.LAID[source.name]
            rows[source.name] = [loose if key is None else keyed(key) for key in queue]
        expected = []
        for which, at in plain_merge(queues):
            key = queues[which][at]
            matches = key is not None and all(key in queue for queue in queues)
            expected.append((sources[which].name, at, matches))
        told = [(name, at, matches) for name, at, _, matches in ordered(sources, rows)]
        self.assertEqual(told, expected, rows)

    def test_two_sources(self):
        for queues in itertools.product(list(self.queues(3, (-1, 2))), repeat=2):
            self.check((A, B), queues)

    def test_three_sources(self):
        for queues in itertools.product(list(self.queues(2, (-1, 2))), repeat=3):
            self.check((B, D, A), queues)


class Matching(unittest.TestCase):
    def test_one_alone_with_keys(self):
        self.assertEqual(matched((A,), {"a": [item(1), item(1)]}), [])
        self.assertEqual(matched((A, C), {"a": [item(1)], "c": [wide("i  1")]}), [])

    def test_two_beside_one_without(self):
        rows = {"a": [item(1), item(2), item(4)], "b": [part(2), part(3), part(4)], "c": [wide("")]}
        for sources in itertools.permutations((A, B, C)):
            self.assertEqual(sorted(matched(sources, rows)), ["a1", "a2", "b0", "b2"])

    def test_a_source_with_keys_that_has_no_records(self):
        rows = {"a": [item(1)], "b": [part(1)]}
        self.assertEqual(matched((A, B), rows), ["a0", "b0"])
        self.assertEqual(matched((A, B, D), rows), [])
        self.assertEqual(matched((A, B), {"a": [item(1)]}), [])

    def test_three_where_two_have_the_key(self):
        rows = {"a": [item(1), item(2)], "b": [part(1), part(3)], "d": [unit(2), unit(3)]}
        self.assertEqual(matched((A, B, D), rows), [])

    def test_three_that_all_have_it_far_apart(self):
        rows = {"a": [item(0), item(1), item(1), item(7)], "b": [MEMOED, part(1), MEMOED, part(7), part(7)],
                "d": [unit(-5), unit(-4), MEMOED, unit(7), MEMOED]}
        self.assertEqual(matched((A, B, D), rows), ["a3", "b3", "b4", "d3"])

    def test_each_of_several_like_ones_matches(self):
        rows = {"a": [item(1), NOTED, item(1)], "b": [part(1), MEMOED, part(1)]}
        self.assertEqual(matched((A, B), rows), ["a0", "a2", "b0", "b2"])

    def test_loose_ones_never_match(self):
        self.assertEqual(matched((A, B), {"a": [NOTED], "b": [MEMOED]}), [])

    def test_a_part_of_the_key_does_not_do(self):
        fields = (text("t", 1), number("n", 3))
        one, two = [Source(name, (Shape("s", None, fields),), by=("t", "n")) for name in "ab"]
        rows = {"a": [wide("aa  1"), wide("bb  2")], "b": [wide("aa  2"), wide("bb  2")]}
        self.assertEqual(matched((one, two), rows), ["a1", "b1"])


class Refused(unittest.TestCase):
    def refused(self, kind, sources, rows):
        kept = copy.deepcopy(rows)
        parts = [(source.name, source.shapes, source.by) for source in sources]
        with self.subTest(rows=repr(rows)), self.assertRaises(kind) as caught:
            ordered(sources, rows)
        self.assertIs(type(caught.exception), kind)
        self.assertEqual(list(rows.items()), list(kept.items()))
        self.assertEqual([(source.name, source.shapes, source.by) for source in sources], parts)
        return caught.exception

    def no_record(self, name, sources, rows):
        self.assertEqual(self.refused(NoRecord, sources, rows).name, name)

    def no_order(self, name, at, sources, rows):
        refusal = self.refused(NoOrder, sources, rows)
        self.assertEqual((refusal.name, refusal.at), (name, at))

    def test_sources_that_are_none(self):
        five = tuple(Source(name, (REST,)) for name in "abcde")
        for sources in odd_but() + [[A], A, (A, A), five, (A, None), ((A,),)]:
            for rows in ({}, {"a": [None]}, {"a": [item(2), item(1)]}):
                with self.subTest(sources=repr(sources)), self.assertRaises(NoSource) as caught:
                    ordered(sources, rows)
                self.assertIs(type(caught.exception), NoSource)

    def test_what_is_no_record(self):
        for thing in odd_but() + ["i" * 59, "i" * 61]:
            with self.assertRaises(NoRecord) as caught:
                ordered((A,), {"a": [item(1), thing]})
            self.assertEqual(caught.exception.name, "a/")

    def test_no_shape_fits(self):
        self.no_record("a/", (A,), {"a": [wide("x")]})
        self.no_record("b/", (A, B), {"a": [item(1)], "b": [part(1), wide("i")]})

    def test_a_number_field_that_is_none(self):
        self.no_record("a/qty", (A,), {"a": [item(1, "x")]})
        self.no_record("a/no", (A,), {"a": [item("x", "x")]})
        self.no_record("a/pages", (A,), {"a": [wide("n".ljust(9) + "1 1")]})
        self.no_record("b/id", (A, B), {"b": [part("-")]})

    def test_the_first_source_and_row(self):
        bad, worse = item(1, "x"), item("x")
        self.no_record("a/qty", (A, B), {"a": [item(1), bad, worse], "b": [part("x"), None]})
        self.no_record("a/no", (A, B), {"b": [None], "a": [worse, bad]})
        self.no_record("b/id", (B, A), {"a": [worse], "b": [part(1), part("x")]})
        self.no_record("a/", (A, B), {"a": [item(1), None, bad], "b": [part("x")]})
        self.no_record("b/id", (A, B, C), {"a": [item(1)], "b": [part("x")], "c": [None]})

    def test_a_key_falls_ahead_of_a_later_record_that_is_none(self):
        falls = [item(2), item(1)]
        for later in (part("x"), None, wide("i")):
            self.no_order("a", 1, (A, B), {"a": falls, "b": [part(1), later]})
            self.no_record("b/id" if later == part("x") else "b/", (B, A), {"a": falls, "b": [part(1), later]})
        for later in (item(3, "x"), item("x"), None, wide("x")):
            self.no_order("a", 1, (A, B), {"a": [*falls, later], "b": [part("x")]})
            self.no_order("a", 2, (A, B), {"a": [NOTED, *falls, NOTED, later]})

    def test_a_record_that_is_none_ahead_of_a_key_that_falls(self):
        falls = [item(2), item(1)]
        self.no_record("a/", (A, B), {"a": [None, *falls], "b": [part(2), part(1)]})
        self.no_record("a/", (A,), {"a": [item(2), None, item(1)]})
        self.no_record("a/qty", (A, B), {"a": [item(2, "x"), item(1)], "b": [part(2), part(1)]})
        self.no_record("a/qty", (A, B), {"a": [item(2), item(3, "x")], "b": [part(2), part(1)]})

    def test_the_record_itself_goes_ahead_of_its_key(self):
        self.no_record("a/qty", (A,), {"a": [item(2), item(1, "x")]})
        self.no_record("a/no", (A,), {"a": [item(2), item("x")]})

    def test_where_a_key_falls(self):
        self.no_order("a", 1, (A,), {"a": [item(2), item(1)]})
        self.no_order("a", 3, (A,), {"a": [item(-2), item(1), item(3), item(2), item(1), item(0)]})
        self.no_order("b", 1, (A, B), {"a": [item(1)], "b": [part(0), part(-1)]})

    def test_loose_ones_between(self):
        self.no_order("a", 4, (A,), {"a": [NOTED, item(2), NOTED, NOTED, item(1), NOTED]})
        self.no_order("b", 3, (A, B), {"b": [MEMOED, part(5), MEMOED, part(4)]})

    def test_the_first_source_whose_key_falls(self):
        rows = {"b": [part(2), part(1)], "a": [item(1), item(2), item(1)]}
        self.no_order("a", 2, (A, B), rows)
        self.no_order("b", 1, (B, A), rows)

    def test_it_falls_below_the_last_one_alone(self):
        self.no_order("a", 2, (A,), {"a": [item(1), item(5), item(3), item(4)]})

    def test_like_keys_do_not_fall(self):
        self.assertEqual(read((A,), {"a": [item(1), NOTED, item(1), wide("i001")]}), ["a0", "a1", "a2", "a3"])

    def test_sources_without_keys_never_fall(self):
        source = Source("a", (ITEM,))
        self.assertEqual(read((source,), {"a": [item(3), item(1), item(2)]}), ["a0", "a1", "a2"])

    def test_refusals_are_told_alike_again(self):
        rows = {"a": [item(2), item(1)]}
        for _ in range(3):
            self.no_order("a", 1, (A, B), rows)
        rows["a"].pop()
        self.assertEqual(read((A, B), rows), ["a0"])


if __name__ == "__main__":
    unittest.main()
