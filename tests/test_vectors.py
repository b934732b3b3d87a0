import copy
import itertools
import random
import unittest

from tests.even import plain_is_mix, plain_rank
from totalround.vectors import is_mix, rank


class Ranks(unittest.TestCase):
    def told(self, worth, *rows):
        for order in itertools.permutations(rows) if len(rows) < 5 else (rows,):
            given = list(order)
            told = rank(given)
            self.assertEqual(told, worth, order)
            self.assertIs(type(told), int)
            self.assertEqual(given, list(order))

    def test_no_rows(self):
        self.told(0)

    def test_rows_of_no_numbers(self):
        self.told(0, ())
        self.told(0, (), ())

    def test_noughts(self):
        self.told(0, (0,))
        self.told(0, (0, 0, 0), (0, 0, 0))
        self.told(1, (0, 0), (0, 1))

    def test_one(self):
        self.told(1, (3,))
        self.told(1, (0, -2, 0))

    def test_equal_rows(self):
        self.told(1, (1, 2), (1, 2), (1, 2))
        self.told(1, (1, 2), (-2, -4), (3, 6))
        self.told(2, (1, 2), (2, 1), (1, 2))

    def test_sums_of_others(self):
        self.told(2, (1, 0, 2), (0, 1, 3), (1, 1, 5))
        self.told(2, (1, 0, 2), (0, 1, 3), (5, -7, -11))
        self.told(2, (2, 4, 6), (3, 5, 9), (5, 9, 15))
        self.told(3, (1, 0, 2), (0, 1, 3), (1, 1, 6))

    def test_fractions_of_others(self):
        self.told(1, (2, 4), (3, 6))
        self.told(2, (2, 0, 4), (0, 3, 3), (1, 1, 3))

    def test_more_rows_than_numbers(self):
        self.told(2, (1, 2), (3, 4), (5, 6), (7, 8))
        self.told(1, (5,), (7,), (0,))

    def test_more_numbers_than_rows(self):
        self.told(2, (0, 0, 1, 2, 3), (0, 0, 1, 2, 4))

    def test_large_numbers(self):
        big = 10 ** 60
        self.told(1, (big, big + 1), (2 * big, 2 * big + 2))
        self.told(2, (big, big + 1), (big + 1, big + 2))
        self.told(2, (big, 1), (1, 0))
        self.told(1, (-big, big), (big, -big))

    def test_beside_fractions(self):
        for seed in range(300):
            rng = random.Random(seed)
            width = rng.randint(1, 6)
            rows = [tuple(rng.choice((-3, -1, 0, 0, 1, 2)) for _ in range(width)) for _ in range(rng.randint(0, 6))]
            self.assertEqual(rank(rows), plain_rank(rows), rows)


class Mixes(unittest.TestCase):
    def told(self, worth, vectors, vector):
        kept = copy.deepcopy((vectors, vector))
        for order in itertools.permutations(vectors) if len(vectors) < 5 else (vectors,):
            self.assertIs(is_mix(order, vector), worth, (order, vector))
        self.assertEqual((vectors, vector), kept)

    def test_one_alone(self):
        self.told(True, ((1, 2),), (1, 2))
        self.told(False, ((1, 2),), (1, 3))
        self.told(False, ((1, 2),), (2, 4))
        self.told(False, ((1, 2),), (0, 0))

    def test_none(self):
        self.told(False, (), (0, 0))
        self.told(False, (), (1,))
        self.told(False, (), ())

    def test_noughts(self):
        self.told(True, ((0, 0),), (0, 0))
        self.told(False, ((0, 0),), (0, 1))
        self.told(True, ((0, 0), (2, 0)), (1, 0))

    def test_between_and_beyond(self):
        for vector in ((2, 3), (3, 5), (0, -1), (101, 201), (-99, -199), (1, 1), (4, 7)):
            self.told(True, ((1, 1), (4, 7)), vector)
        for vector in ((2, 4), (2, 2), (0, 0), (5, 8)):
            self.told(False, ((1, 1), (4, 7)), vector)

    def test_fractions_that_are_not_1_together(self):
        # A sum of both, but 1 and 1 are 2.
        self.told(False, ((1, 0), (0, 1)), (1, 1))
        self.told(False, ((1, 0), (0, 1)), (0, 0))
        self.told(True, ((1, 0), (0, 1)), (2, -1))
        self.told(True, ((1, 0), (0, 1), (0, 0)), (1, 1))
        self.told(True, ((1, 0, 0), (0, 1, 0), (0, 0, 1)), (1, 1, -1))
        self.told(False, ((1, 0, 0), (0, 1, 0), (0, 0, 1)), (1, 1, 1))

    def test_fractions_that_are_no_whole_numbers(self):
        self.told(True, ((0,), (3,)), (1,))
        self.told(True, ((0, 0), (2, 6)), (1, 3))
        self.told(True, ((0, 0), (6, 9), (9, 6)), (5, 5))
        self.told(False, ((2, 2), (5, 7)), (3, 3))

    def test_equal_vectors(self):
        self.told(True, ((1, 2), (1, 2), (3, 2)), (7, 2))
        self.told(False, ((1, 2), (1, 2)), (2, 4))

    def test_large_numbers(self):
        big = 10 ** 50
        self.told(True, ((0, 0), (2 * big, 2)), (big, 1))
        self.told(False, ((0, 0), (2 * big, 2)), (big + 1, 1))

    def test_no_numbers(self):
        self.told(True, ((),), ())

    def test_beside_fractions(self):
        found = set()
        for seed in range(400):
            rng = random.Random(seed)
            width = rng.randint(1, 4)
            vectors = tuple(tuple(rng.choice((-2, 0, 0, 1, 3)) for _ in range(width)) for _ in range(rng.randint(1, 4)))
            vector = tuple(rng.choice((-1, 0, 1, 2)) for _ in range(width))
            told = is_mix(vectors, vector)
            found.add(told)
            self.assertIs(told, plain_is_mix(vectors, vector), (vectors, vector))
        self.assertEqual(found, {True, False})


if __name__ == "__main__":
    unittest.main()
