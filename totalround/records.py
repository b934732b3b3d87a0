"""Records: which shape fits, how they are cut into worths and laid again."""

from totalround.errors import NoRecord
from totalround.shapes import WIDTH, is_number_from, is_signs

LEAST_NUMBER = -99999999
MOST_NUMBER = 999999999


def is_record(thing):
    """Whether this is a record: a text of 60 signs."""
    return isinstance(thing, str) and len(thing) == WIDTH and is_signs(thing)


def fits(shape, record):
    """Whether this is a record that has the shape's mark."""
    if not is_record(record):
        return False
    if shape.mark is None:
        return True
    column, sign = shape.mark
    return record[column - 1] == sign


def number_of(signs):
    """The number that a number field of these signs is worth, None where it is none."""
    shown = signs.lstrip(" ")
    if shown == "":
        return 0
    figures = shown.removeprefix("-")
    # int() lets by more than figures ("+1", "1_0", "1 "), so they are looked at one by one.
    if figures == "" or not all(["0" <= figure <= "9" for figure in figures]):
        return None
    return int(shown)


def cut(shape, record):
    """The worths of the record's fields, in the order of the shape's fields."""
    if not fits(shape, record):
        raise NoRecord("")
    worths = {}
    for name, column, length, kind in shape.fields:
        worth = record[column - 1:column - 1 + length]
        if kind == "number":
            worth = number_of(worth)
        if worth is None:
            raise NoRecord(name)
        worths[name] = worth
    return worths


def shown_text(worth, length):
    """The signs of a text field of this worth, None where it can't be laid."""
    if not is_signs(worth) or len(worth) > length:
        return None
    return worth.ljust(length)


def shown_number(worth, length):
    """The signs of a number field of this worth, None where it can't be laid."""
    # Looked at by size first: str() refuses numbers of thousands of figures.
    if not is_number_from(worth, LEAST_NUMBER, MOST_NUMBER):
        return None
    shown = str(worth)
    return shown.rjust(length) if len(shown) <= length else None


def laid(shape, worths):
    """The record of this shape whose fields have these worths."""
    signs = [" "] * WIDTH
    if shape.mark is not None:
        column, sign = shape.mark
        signs[column - 1] = sign
    for name, column, length, kind in shape.fields:
        # A worth that lacks comes as None, which is of neither kind.
        worth = worths.get(name)
        shown = shown_text(worth, length) if kind == "text" else shown_number(worth, length)
        if shown is None:
            raise NoRecord(name)
        signs[column - 1:column - 1 + length] = list(shown)
    return "".join(signs)
