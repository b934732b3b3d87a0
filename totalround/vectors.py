"""Vectors of whole numbers: how many are free of each other, and which are mixes of others."""

from math import gcd


def shortened(row):
    """The row without what all its numbers have in common, so that they don't grow."""
    common = 0
    for number in row:
        common = gcd(common, number)
    return row if common < 2 else [number // common for number in row]


def left_of(row, basis):
    """What is left of the row, or of some times of it, where those of the basis are taken away; 0s of a sum of them."""
    left = list(row)
    for place, taken in basis:
        if left[place] != 0:
            left = shortened([taken[place] * number - left[place] * other for number, other in zip(left, taken)])
    return left


def first_place(row):
    """The place of the first number that isn't 0, None of noughts alone."""
    for place, number in enumerate(row):
        if number != 0:
            return place
    return None


def widened(basis, row):
    """The basis with what the row adds to it; the basis itself where the row is a sum of fractions of it."""
    left = left_of(row, basis)
    place = first_place(left)
    return basis if place is None else [*basis, (place, left)]


def rank(rows):
    """How many of these are free of each other."""
    basis = []
    for row in rows:
        basis = widened(basis, row)
    return len(basis)


def is_sum_of(basis, row):
    """Whether the row is a sum of fractions of the basis."""
    return first_place(left_of(row, basis)) is None


def mixes_of(vectors):
    """A basis by which is_mixed tells the mixes of these."""
    basis = []
    for vector in vectors:
        basis = widened(basis, (*vector, 1))
    return basis


def is_mixed(basis, vector):
    """Whether the vector is a mix of those from which the basis comes."""
    # The 1 behind each makes the fractions together 1.
    return is_sum_of(basis, (*vector, 1))


def is_mix(vectors, vector):
    """Whether the vector is a sum of fractions of these, the fractions together 1."""
    return is_mixed(mixes_of(vectors), vector)
