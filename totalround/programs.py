"""Programs: sources, levels, boxes, flags, and the steps and lines of each round."""

from totalround.errors import NoProgram
from totalround.merging import all_fields, all_shapes, is_sources
from totalround.shapes import are_unlike, is_name, is_signs
from totalround.sources import Source
from totalround.terms import is_one_of, is_sum

MOST_LEVELS = 3
MOST_BOXES = 8
MOST_FLAGS = 3
MOST_STEPS = 60
MOST_LINES = 12
MOST_CONDITIONS = 3
MOST_PARTS = 8
MOST_CLEARED = 8
LONGEST_TEXT = 20

TIMES = ("total", "detail")
LEVEL_INDICATORS = ("L1", "L2", "L3")
# Each word with the kinds of what stands behind it.
DEEDS = {
    "set": ("box", "sum"),
    "times": ("box", "cell", "cell"),
    "on": ("flag",),
    "off": ("flag",),
    "ask": ("against", "sum", "sum", "flag"),
    "leave": (),
}
PARTS = {"text": ("signs",), "number": ("box or cell",), "words": ("word cell",)}


def field_names(sources, kind):
    """The names of all fields of this kind, in order, each once."""
    return list({field[0]: True for field in all_fields(all_shapes(sources)) if field[3] == kind})


def shape_names(sources):
    """The names of all shapes, in order."""
    return [shape.name for shape in all_shapes(sources)]


def known_names(sources, levels, boxes, flags):
    """For each kind of place the names that may stand there."""
    numbers = field_names(sources, "number")
    return {
        "indicator": [*shape_names(sources), *LEVEL_INDICATORS[:len(levels)], "MR", "LR", *flags],
        "box": boxes,
        "cell": numbers,
        "box or cell": [*boxes, *numbers],
        "word cell": field_names(sources, "text"),
        "flag": flags,
        "against": ("under", "same", "over"),
    }


def is_place(thing, kind, known):
    """Whether this may stand in a place of this kind."""
    if kind == "sum":
        return is_sum(thing, known["box"], known["cell"])
    if kind == "signs":
        return is_signs(thing) and len(thing) <= LONGEST_TEXT
    return is_one_of(thing, known[kind])


def are_places(things, kinds, known):
    """Whether these are as many as the kinds, each of its own."""
    if len(things) != len(kinds):
        return False
    return all([is_place(thing, kind, known) for thing, kind in zip(things, kinds)])


def is_deed(thing, known):
    """Whether this is what a step may do."""
    if not isinstance(thing, tuple) or len(thing) == 0:
        return False
    word = thing[0]
    return isinstance(word, str) and word in DEEDS and are_places(thing[1:], DEEDS[word], known)


def is_part(thing, known):
    """Whether this is what a line may tell."""
    if not isinstance(thing, tuple) or len(thing) == 0:
        return False
    word = thing[0]
    return isinstance(word, str) and word in PARTS and are_places(thing[1:], PARTS[word], known)


def is_condition(thing, known):
    """Whether this is an indicator and whether it is to be on."""
    if not isinstance(thing, tuple) or len(thing) != 2:
        return False
    return is_one_of(thing[0], known["indicator"]) and isinstance(thing[1], bool)


def is_box(thing, known):
    """Whether this is the name of a box."""
    return is_one_of(thing, known["box"])


def are_up_to(most, things, is_such, known):
    """Whether this is a tuple of up to so many things that are such."""
    if not isinstance(things, tuple) or len(things) > most:
        return False
    return all([is_such(thing, known) for thing in things])


def is_step(thing, known):
    """Whether this is a step: its time, its conditions and its deed."""
    if not isinstance(thing, tuple) or len(thing) != 3:
        return False
    time, conditions, deed = thing
    if not is_one_of(time, TIMES) or not is_deed(deed, known):
        return False
    return are_up_to(MOST_CONDITIONS, conditions, is_condition, known)


def is_line(thing, known):
    """Whether this is a line: its time, its conditions, its parts and the boxes that it clears."""
    if not isinstance(thing, tuple) or len(thing) != 4:
        return False
    time, conditions, parts, cleared = thing
    if not is_one_of(time, TIMES) or not are_up_to(MOST_CONDITIONS, conditions, is_condition, known):
        return False
    return are_up_to(MOST_PARTS, parts, is_part, known) and are_up_to(MOST_CLEARED, cleared, is_box, known)


def are_names(things, most):
    """Whether this is a tuple of up to so many names, no two of them equal."""
    if not isinstance(things, tuple) or len(things) > most:
        return False
    return all([is_name(thing) for thing in things]) and are_unlike(things)


def are_levels(things, sources):
    """Whether these are levels over these sources."""
    if not are_names(things, MOST_LEVELS):
        return False
    fields = [field[0] for field in all_fields(all_shapes(sources))]
    return all([level in fields for level in things])


def are_names_apart(sources, boxes, flags):
    """Whether no name is that of two shapes, or two of shape, field, box and flag."""
    # Fields of one name in many shapes are one cell, so each name of a field counts once.
    fields = [*field_names(sources, "number"), *field_names(sources, "text")]
    return are_unlike([*shape_names(sources), *fields, *boxes, *flags])


def are_program_parts(sources, levels, boxes, flags, steps, lines):
    """Whether a program may be made of these."""
    if not is_sources(sources) or not are_levels(levels, sources):
        return False
    if not are_names(boxes, MOST_BOXES) or not are_names(flags, MOST_FLAGS):
        return False
    if not are_names_apart(sources, boxes, flags):
        return False
    known = known_names(sources, levels, boxes, flags)
    return are_up_to(MOST_STEPS, steps, is_step, known) and are_up_to(MOST_LINES, lines, is_line, known)


class Program:
    """What is done in each round, and with which sources."""

    def __init__(self, sources, *, levels=(), boxes=(), flags=(), steps=(), lines=()):
        if not are_program_parts(sources, levels, boxes, flags, steps, lines):
            raise NoProgram("these make no program")
        # Sources of its own, so that those handed in may be changed later.
        self.sources = tuple([Source(source.name, source.shapes, by=source.by) for source in sources])
        self.levels = levels
        self.boxes = boxes
        self.flags = flags
        self.steps = steps
        self.lines = lines

    def __eq__(self, other):
        return (isinstance(other, Program) and self.sources == other.sources and self.levels == other.levels
                and self.boxes == other.boxes and self.flags == other.flags
                and self.steps == other.steps and self.lines == other.lines)


def is_program(thing):
    """Whether this is a program, and still one: its parts may have been changed since it was made."""
    return isinstance(thing, Program) and are_program_parts(
        thing.sources, thing.levels, thing.boxes, thing.flags, thing.steps, thing.lines)


def cells(program):
    """The names of all number fields, in the order of sources, shapes and fields, each once."""
    return field_names(program.sources, "number")


def word_cells(program):
    """The names of all text fields, in the order of sources, shapes and fields, each once."""
    return field_names(program.sources, "text")


def number_fields(program):
    """For each shape the names of its number fields, in order."""
    return {shape.name: [field[0] for field in shape.fields if field[3] == "number"]
            for shape in all_shapes(program.sources)}
