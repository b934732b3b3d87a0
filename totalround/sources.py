"""Sources: records of several shapes in one place, perhaps with keys."""

from totalround.errors import NoRecord, NoSource
from totalround.records import cut, fits
from totalround.shapes import Shape, are_unlike, is_name, is_shape

MOST_SHAPES = 4
MOST_KEYS = 3


def have_fields_alike(shapes):
    """Whether fields of one name have one kind and length in all these shapes."""
    known = {}
    for shape in shapes:
        for name, _, length, kind in shape.fields:
            if known.setdefault(name, (length, kind)) != (length, kind):
                return False
    return True


def are_shapes(things):
    """Whether these are the shapes of one source."""
    if not isinstance(things, tuple) or not 1 <= len(things) <= MOST_SHAPES:
        return False
    if not all([is_shape(thing) for thing in things]):
        return False
    return are_unlike([shape.name for shape in things]) and have_fields_alike(things)


def count_keys(shape, by):
    """How many of these keys the shape has fields of."""
    return len([field for field in shape.fields if field[0] in by])


def are_keys(by, shapes):
    """Whether these are the keys of a source of these shapes."""
    if not isinstance(by, tuple) or len(by) > MOST_KEYS:
        return False
    if not all([is_name(key) for key in by]) or not are_unlike(by):
        return False
    counts = [count_keys(shape, by) for shape in shapes]
    # Where there are no keys each shape has all 0 of them, so both hold.
    return all([count in (0, len(by)) for count in counts]) and len(by) in counts


def are_source_parts(name, shapes, by):
    """Whether a source may be made of these."""
    return is_name(name) and are_shapes(shapes) and are_keys(by, shapes)


class Source:
    """A place of records: its name, its shapes and the names of its keys."""

    def __init__(self, name, shapes, *, by=()):
        if not are_source_parts(name, shapes, by):
            raise NoSource("these make no source")
        self.name = name
        # Shapes of its own, so that one handed in may be changed later.
        self.shapes = tuple([Shape(shape.name, shape.mark, shape.fields) for shape in shapes])
        self.by = by

    def __eq__(self, other):
        return (isinstance(other, Source) and self.name == other.name
                and self.shapes == other.shapes and self.by == other.by)


def is_source(thing):
    """Whether this is a source, and still one: its parts may have been changed since it was made."""
    return isinstance(thing, Source) and are_source_parts(thing.name, thing.shapes, thing.by)


def first_fitting(source, record):
    """The first of the source's shapes that fits the record."""
    for shape in source.shapes:
        if fits(shape, record):
            return shape
    raise NoRecord("")


def shape_of(source, record):
    """The name of the record's shape."""
    return first_fitting(source, record).name


def cut_by(source, record):
    """The name of the record's shape, and the worths of its fields."""
    shape = first_fitting(source, record)
    return shape.name, cut(shape, record)


def key_in(source, worths):
    """The worths of the source's keys among these of a record, None of a loose record."""
    # A shape has fields of all keys or of none, so the first one tells.
    if source.by == () or source.by[0] not in worths:
        return None
    return tuple([worths[key] for key in source.by])


def key_of(source, record):
    """The worths of the record's keys, None of a loose record."""
    return key_in(source, cut_by(source, record)[1])
