"""Names, signs and the shapes of records."""

from totalround.errors import NoShape

WIDTH = 60
LONGEST_NAME = 6
MOST_FIELDS = 8
LONGEST_FIELD = {"text": 20, "number": 9}


def is_name(thing):
    """Whether this is a name: 1 to 6 small letters."""
    if not isinstance(thing, str) or not 1 <= len(thing) <= LONGEST_NAME:
        return False
    return all(["a" <= letter <= "z" for letter in thing])


def is_signs(thing):
    """Whether this is a text of signs alone, each from the blank to the tilde."""
    return isinstance(thing, str) and all([" " <= sign <= "~" for sign in thing])


def is_number(thing):
    """Whether this is a number."""
    # Python takes a truth for an int; here it is none.
    return isinstance(thing, int) and not isinstance(thing, bool)


def is_number_from(thing, least, most):
    """Whether this is a number from the least to the most."""
    return is_number(thing) and least <= thing <= most


def is_mark(thing):
    """Whether this is None or a pair of a column and a sign."""
    if thing is None:
        return True
    if not isinstance(thing, tuple) or len(thing) != 2:
        return False
    column, sign = thing
    return is_number_from(column, 1, WIDTH) and is_signs(sign) and len(sign) == 1


def is_field(thing):
    """Whether this is a field by itself, within the columns of a record."""
    if not isinstance(thing, tuple) or len(thing) != 4:
        return False
    name, column, length, kind = thing
    if not is_name(name) or not isinstance(kind, str) or kind not in LONGEST_FIELD:
        return False
    if not is_number_from(length, 1, LONGEST_FIELD[kind]):
        return False
    return is_number_from(column, 1, WIDTH - length + 1)


def are_unlike(things):
    """Whether no two of these texts or numbers are equal."""
    return len(set(things)) == len(things)


def taken_columns(mark, fields):
    """The columns of the mark and of all fields, each as often as it is taken."""
    taken = [] if mark is None else [mark[0]]
    for field in fields:
        taken.extend(list(range(field[1], field[1] + field[2])))
    return taken


def are_fields(things, mark):
    """Whether these are a shape's fields beside this mark."""
    if not isinstance(things, tuple) or len(things) > MOST_FIELDS:
        return False
    if not all([is_field(thing) for thing in things]):
        return False
    names = [field[0] for field in things]
    return are_unlike(names) and are_unlike(taken_columns(mark, things))


def are_parts(name, mark, fields):
    """Whether a shape may be made of these."""
    return is_name(name) and is_mark(mark) and are_fields(fields, mark)


class Shape:
    """One kind of record: its name, its mark and its fields."""

    def __init__(self, name, mark, fields):
        if not are_parts(name, mark, fields):
            raise NoShape("these make no shape")
        self.name = name
        self.mark = mark
        self.fields = fields

    def __eq__(self, other):
        return (isinstance(other, Shape) and self.name == other.name
                and self.mark == other.mark and self.fields == other.fields)


def is_shape(thing):
    """Whether this is a shape, and still one: its parts may have been changed since it was made."""
    return isinstance(thing, Shape) and are_parts(thing.name, thing.mark, thing.fields)
