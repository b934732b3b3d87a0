import copy
import itertools
import unittest

from tests.things import number, odd_but, text, wide
from totalround.errors import NoOrder, NoRecord, NoSource
from totalround.levels import breaks, broken
from totalround.shapes import Shape
from totalround.sources import Source

THREE = ("day", "month", "year")

# A sale is levelled by all of these, a visit by the first two, a note by none.
SALE = Shape("sale", (1, "s"), (text("day", 2), text("month", 4), number("year", 6), number("qty", 10)))
VISIT = Shape("visit", (1, "v"), (text("month", 20), text("day", 30)))
NOTE = Shape("note", (1, "n"), (text("words", 2, 5),))
BOOK = Source("book", (SALE, VISIT, NOTE))


def worths(day, month, year, **more):
    return {"day": day, "month": month, "year": year, **more}


def sale(day, month, year):
    return wide("s" + day + month + str(year).rjust(3))


def visit(day, month):
    return wide("v".ljust(19) + month.ljust(10) + day)


NOTED = wide("nabc")


class Breaks(unittest.TestCase):
    def told(self, worth, levels, ahead, now):
        kept = copy.deepcopy((levels, ahead, now))
        with self.subTest(levels=levels, ahead=ahead, now=now):
            told = breaks(levels, ahead, now)
            self.assertEqual(told, worth)
            self.assertIs(type(told), int)
            self.assertEqual((levels, ahead, now), kept)
            for dict_, was in ((ahead, kept[1]), (now, kept[2])):
                self.assertEqual(list(dict_ or ()), list(was or ()))

    def test_none_ahead(self):
        now = worths("mo", "ja", 1)
        for many in range(4):
            self.told(many, THREE[:many], None, now)

    def test_each_set_of_changes(self):
        ahead = worths("mo", "ja", 1)
        for changed in itertools.product((False, True), repeat=3):
            now = dict(ahead)
            for level, other in zip(THREE, changed):
                if other:
                    now[level] = 2 if level == "year" else "zz"
            for many in range(4):
                highest = max([0] + [k + 1 for k in range(many) if changed[k]])
                self.told(highest, THREE[:many], ahead, now)

    def test_some_written_out(self):
        ahead = worths("mo", "ja", 1)
        self.told(0, THREE, ahead, worths("mo", "ja", 1))
        self.told(1, THREE, ahead, worths("tu", "ja", 1))
        self.told(2, THREE, ahead, worths("mo", "fe", 1))
        self.told(3, THREE, ahead, worths("mo", "ja", 2))
        self.told(3, THREE, ahead, worths("tu", "ja", 2))
        self.told(2, THREE, ahead, worths("tu", "fe", 1))

    def test_no_levels(self):
        self.told(0, (), None, {})
        self.told(0, (), {"day": "mo"}, {"day": "tu"})

    def test_further_fields(self):
        self.told(0, ("day",), {"day": "mo", "qty": 1}, {"day": "mo", "qty": 2, "words": "x"})
        self.told(1, ("day",), {"day": "mo", "qty": 1}, {"day": "tu", "qty": 1})
        self.told(2, ("day", "month"), worths("mo", "ja", 1), worths("mo", "fe", 2))
        self.told(0, ("day", "month"), worths("mo", "ja", 1), {"day": "mo", "month": "ja"})

    def test_another_order(self):
        self.told(0, THREE, worths("mo", "ja", 1), {"year": 1, "day": "mo", "month": "ja"})
        self.told(1, ("year", "day"), worths("mo", "ja", 1), {"month": "fe", "year": 2, "day": "mo"})
        self.told(2, ("year", "day"), worths("mo", "ja", 1), worths("tu", "ja", 1))

    def test_a_field_that_lacks(self):
        ahead = worths("mo", "ja", 1)
        for level in THREE:
            now = worths("tu", "fe", 2)
            del now[level]
            self.told(0, THREE, ahead, now)
            self.told(0, THREE, None, now)
        self.told(0, THREE, ahead, {})
        self.told(0, THREE, None, {})
        self.told(0, ("day",), None, {"month": "ja"})

    def test_worths_as_they_are(self):
        self.told(1, ("day",), {"day": "mo"}, {"day": "mo "})
        self.told(1, ("day",), {"day": "  "}, {"day": ""})
        self.told(1, ("year",), {"year": 0}, {"year": -1})
        self.told(0, ("year",), {"year": 0}, {"year": 0})
        self.told(0, ("day",), {"day": ""}, {"day": ""})

    def test_asked_again(self):
        ahead, now = worths("mo", "ja", 1), worths("mo", "fe", 1)
        self.assertEqual([breaks(THREE, ahead, now) for _ in range(3)], [2, 2, 2])


class Broken(unittest.TestCase):
    def test_one_source(self):
        rows = {"book": [sale("mo", "ja", 1), sale("tu", "ja", 1), sale("tu", "ja", 1), sale("tu", "fe", 1),
                         sale("tu", "fe", 2), sale("mo", "fe", 2)]}
        told = broken((BOOK,), rows, THREE)
        self.assertEqual(told, [3, 1, 0, 2, 3, 1])
        self.assertIs(type(told), list)

    def test_the_lowest_first(self):
        rows = {"book": [sale("mo", "ja", 1), sale("tu", "ja", 1), sale("tu", "ja", 2)]}
        self.assertEqual(broken((BOOK,), rows, ("year", "day")), [2, 2, 1])
        self.assertEqual(broken((BOOK,), rows, ("day", "year")), [2, 1, 2])

    def test_records_of_no_levelled_shape_between(self):
        rows = {"book": [NOTED, sale("mo", "ja", 1), NOTED, visit("tu", "fe"), sale("mo", "ja", 1), NOTED,
                         sale("mo", "ja", 2), NOTED]}
        self.assertEqual(broken((BOOK,), rows, THREE), [0, 3, 0, 0, 0, 0, 3, 0])

    def test_shapes_that_are_levelled_alike(self):
        rows = {"book": [visit("mo", "ja"), sale("mo", "ja", 1), NOTED, visit("tu", "ja"), sale("tu", "fe", 1)]}
        self.assertEqual(broken((BOOK,), rows, ("day", "month")), [2, 0, 0, 1, 2])

    def test_none_levelled(self):
        self.assertEqual(broken((BOOK,), {"book": [NOTED, NOTED, visit("mo", "ja")]}, THREE), [0, 0, 0])

    def test_no_levels(self):
        rows = {"book": [sale("mo", "ja", 1), NOTED, sale("tu", "fe", 2)]}
        self.assertEqual(broken((BOOK,), rows, ()), [0, 0, 0])

    def test_no_records(self):
        self.assertEqual(broken((BOOK,), {}, THREE), [])
        self.assertEqual(broken((BOOK,), {"book": []}, ()), [])

    def test_worths_that_are_written_otherwise(self):
        years = ("  7", "007", " 07", "  0", " -0", "   ", "000", " -7", "-07")
        rows = {"book": [sale("mo", "ja", year) for year in years]}
        self.assertEqual(broken((BOOK,), rows, ("year",)), [1, 0, 0, 1, 0, 0, 0, 1, 0])

    def test_texts_by_all_their_signs(self):
        rows = {"book": [sale(day, "ja", 1) for day in ("a ", " a", "A ", "a ", "a ")]}
        self.assertEqual(broken((BOOK,), rows, ("day",)), [1, 1, 1, 1, 0])

    def test_in_the_order_of_reading(self):
        one = Source("a", (Shape("one", None, (number("k", 1), text("day", 4))),), by=("k",))
        two = Source("b", (Shape("two", (1, "x"), (number("m", 2), text("day", 40))), NOTE), by=("m",))
        rows = {"a": [wide("  1mo"), wide("  3mo")],
                "b": [NOTED, wide("x  2".ljust(39) + "tu"), wide("x  3".ljust(39) + "mo")]}
        self.assertEqual(broken((one, two), rows, ("day",)), [0, 1, 1, 1, 0])

    def test_asked_again(self):
        rows = {"book": [sale("mo", "ja", 1), sale("tu", "ja", 1)]}
        broken((BOOK,), rows, THREE).clear()
        self.assertEqual(broken((BOOK,), rows, THREE), [3, 1])


class Refused(unittest.TestCase):
    def test_sources_that_are_none(self):
        for sources in odd_but() + [[BOOK], BOOK, (BOOK, BOOK), (BOOK, None)]:
            for levels in ((), ("day",)):
                with self.assertRaises(NoSource):
                    broken(sources, {}, levels)

    def test_records(self):
        for row, name in ((wide("x"), "book/"), (None, "book/"), (sale("mo", "ja", "x"), "book/year")):
            rows = {"book": [NOTED, row, sale("mo", "ja", "y")]}
            kept = copy.deepcopy(rows)
            for levels in ((), THREE):
                with self.assertRaises(NoRecord) as caught:
                    broken((BOOK,), rows, levels)
                self.assertEqual(caught.exception.name, name)
            self.assertEqual(rows, kept)

    def test_order(self):
        source = Source("a", (SALE, NOTE), by=("year",))
        rows = {"a": [sale("mo", "ja", 2), NOTED, sale("mo", "ja", 1)]}
        for levels in ((), THREE):
            with self.assertRaises(NoOrder) as caught:
                broken((source,), rows, levels)
            self.assertEqual((caught.exception.name, caught.exception.at), ("a", 2))

    def test_the_first_row_at_fault(self):
        source = Source("a", (SALE, NOTE), by=("year",))
        rows = {"a": [sale("mo", "ja", 2), sale("mo", "ja", 1), None]}
        with self.assertRaises(NoOrder) as caught:
            broken((source,), rows, THREE)
        self.assertEqual((caught.exception.name, caught.exception.at), ("a", 1))
        with self.assertRaises(NoRecord) as caught:
            broken((source,), {"a": rows["a"][::-1]}, THREE)
        self.assertEqual(caught.exception.name, "a/")


if __name__ == "__main__":
    unittest.main()
