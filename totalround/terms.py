"""Sums of what boxes and cells hold."""

from totalround.shapes import is_number_from

MOST_PAIRS = 6
MOST_TIMES = 999
MOST_TIMES_OF_A_BOX = 2


def is_one_of(thing, names):
    """Whether this is one of these names."""
    # A thing of another kind may call itself equal to a name.
    return isinstance(thing, str) and thing in names


def is_pair(thing, boxes, cells):
    """Whether this is a number and a name, as they stand in a sum."""
    if not isinstance(thing, tuple) or len(thing) != 2:
        return False
    number, name = thing
    if is_one_of(name, boxes):
        return is_number_from(number, -MOST_TIMES_OF_A_BOX, MOST_TIMES_OF_A_BOX)
    return is_one_of(name, ["", *cells]) and is_number_from(number, -MOST_TIMES, MOST_TIMES)


def is_sum(thing, boxes, cells):
    """Whether this is a sum over these boxes and cells."""
    if not isinstance(thing, tuple) or len(thing) > MOST_PAIRS:
        return False
    return all([is_pair(pair, boxes, cells) for pair in thing])


def worth_of(terms, holds):
    """What the sum is worth where boxes and cells hold these numbers."""
    return sum([number if name == "" else number * holds[name] for number, name in terms])
