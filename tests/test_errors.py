import unittest

from totalround import errors
from totalround.errors import NoEven, NoOrder, NoProgram, NoRecord, NoShape, NoSource, NoText, RoundError, TooLong


class Refusals(unittest.TestCase):
    def test_round_error_is_a_value_error(self):
        self.assertEqual(RoundError.__bases__, (ValueError,))

    def test_each_refusal_is_right_under_round_error(self):
        for kind in (NoShape, NoSource, NoRecord, NoOrder, NoProgram, NoText, NoEven, TooLong):
            with self.subTest(kind=kind):
                self.assertEqual(kind.__bases__, (RoundError,))

    def test_there_are_no_others(self):
        found = {name for name, thing in vars(errors).items() if isinstance(thing, type)}
        self.assertEqual(found, {"RoundError", "NoShape", "NoSource", "NoRecord", "NoOrder",
                                 "NoProgram", "NoText", "NoEven", "TooLong"})

    def test_what_they_are_made_of(self):
        self.assertEqual(NoRecord("a/qty").name, "a/qty")
        order = NoOrder("a", 3)
        self.assertEqual((order.name, order.at), ("a", 3))
        self.assertEqual(NoText(4).row, 4)

    def test_they_need_what_they_are_made_of(self):
        for made in (lambda: NoRecord(), lambda: NoOrder("a"), lambda: NoText()):
            with self.assertRaises(TypeError):
                made()

    def test_each_is_caught_as_a_value_error(self):
        for error in (NoShape(), NoSource(), NoRecord(""), NoOrder("a", 0), NoProgram(), NoText(0),
                      NoEven(), TooLong()):
            with self.subTest(error=error), self.assertRaises(ValueError):
                raise error
