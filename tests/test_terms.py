import unittest

from tests.things import odd_but
from totalround.terms import is_sum, worth_of

BOXES = ("sum", "count")
CELLS = ("qty", "price")


class Sums(unittest.TestCase):
    def told(self, worth, thing, boxes=BOXES, cells=CELLS):
        """The names of boxes and cells may come as tuples or as lists."""
        for kind in (tuple, list):
            with self.subTest(thing=repr(thing), kind=kind):
                self.assertIs(is_sum(thing, kind(boxes), kind(cells)), worth)

    def test_how_many_pairs(self):
        for many in range(9):
            self.told(many <= 6, ((1, "qty"),) * many)
            self.told(many <= 6, tuple((k, "") for k in range(many)))

    def test_numbers_ahead_of_a_cell_and_of_none(self):
        for name in ("qty", "price", ""):
            for number in (-999, -998, -3, -1, 0, 1, 3, 998, 999):
                self.told(True, ((number, name),))
            for number in (-1000, 1000, 10 ** 30, -(10 ** 30)):
                self.told(False, ((number, name),))

    def test_numbers_ahead_of_a_box(self):
        for name in BOXES:
            for number in (-2, -1, 0, 1, 2):
                self.told(True, ((number, name),))
            for number in (-3, 3, -999, 999, 1000):
                self.told(False, ((number, name),))

    def test_where_no_number_stands(self):
        for name in ("qty", "sum", ""):
            for thing in odd_but(int) + [True, False, "1"]:
                self.told(False, ((thing, name),))

    def test_names(self):
        for name in ("other", "Qty", "qt", "qtyy", " ", "qty ", "L1", "MR"):
            self.told(False, ((1, name),))
        for thing in odd_but(str):
            self.told(False, ((1, thing),))

    def test_without_boxes_or_cells(self):
        self.told(True, ((1, "qty"), (1, "")), boxes=())
        self.told(False, ((1, "sum"),), boxes=())
        self.told(True, ((1, "sum"), (1, "")), cells=())
        self.told(False, ((1, "qty"),), cells=())
        self.told(True, ((1, ""),), boxes=(), cells=())
        self.told(True, (), boxes=(), cells=())

    def test_a_name_twice(self):
        self.told(True, ((1, "qty"), (999, "qty"), (2, "sum"), (2, "sum"), (1, ""), (1, "")))

    def test_each_pair_counts(self):
        good = ((1, "qty"), (2, "sum"), (3, ""))
        self.told(True, good)
        for at in range(3):
            for bad in ((1000, "qty"), (3, "sum"), (1, "other"), None):
                self.told(False, good[:at] + (bad,) + good[at + 1:])

    def test_lists_where_tuples_belong(self):
        self.told(False, [])
        self.told(False, [(1, "qty")])
        self.told(False, ([1, "qty"],))
        self.told(False, {(1, "qty"): 1})

    def test_pairs_that_are_none(self):
        for pair in ((), (1,), (1, "qty", 1), ("qty", 1), "1q", ("qty",), ((1, "qty"),)):
            self.told(False, (pair,))
        self.told(False, (1, "qty"))

    def test_other_things(self):
        for thing in odd_but(tuple) + [("a",), (1,)]:
            self.told(False, thing)
            self.told(False, (thing,))


class Worths(unittest.TestCase):
    HOLDS = {"sum": 10, "count": -3, "qty": 7, "price": 0}

    def told(self, worth, terms):
        kept = dict(self.HOLDS)
        told = worth_of(terms, self.HOLDS)
        self.assertEqual(told, worth)
        self.assertIs(type(told), int)
        self.assertEqual(list(self.HOLDS.items()), list(kept.items()))

    def test_none(self):
        self.told(0, ())

    def test_one(self):
        self.told(7, ((1, "qty"),))
        self.told(-14, ((-2, "qty"),))
        self.told(0, ((999, "price"),))
        self.told(0, ((0, "qty"),))
        self.told(6, ((-2, "count"),))

    def test_numbers_alone(self):
        self.told(5, ((5, ""),))
        self.told(-3, ((5, ""), (-8, "")))

    def test_together(self):
        self.told(10 + 2 * -3 - 3 * 7 + 100, ((1, "sum"), (2, "count"), (-3, "qty"), (100, "")))

    def test_a_name_twice(self):
        self.told(28, ((1, "qty"), (3, "qty")))
        self.told(0, ((2, "qty"), (-2, "qty")))
        self.told(-40, ((-2, "sum"), (-2, "sum")))

    def test_large_numbers(self):
        self.assertEqual(worth_of(((2, "sum"), (999, "qty")), {"sum": 10 ** 40, "qty": -999999999}),
                         2 * 10 ** 40 - 999 * 999999999)

    def test_what_else_holds_something(self):
        self.assertEqual(worth_of(((4, "qty"),), {"other": 1000, "qty": 2}), 8)
        self.assertEqual(worth_of(((4, ""),), {}), 4)


if __name__ == "__main__":
    unittest.main()
