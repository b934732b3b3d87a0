"""Even programs: what comes of a letter at a stand, two of them held together."""

from totalround.errors import NoEven
from totalround.levels import is_levelled
from totalround.programs import cells, field_names, is_program, number_fields
from totalround.rounds import Machine, do_last, do_record, last_indicators, round_indicators
from totalround.shapes import are_unlike

MOST_EVEN_FLAGS = 2
MOST_EVEN_BOXES = 4


def are_told_apart(shapes):
    """Whether there is one shape, or each is told by its sign in one column that no field has."""
    if len(shapes) == 1:
        return True
    marks = [shape.mark for shape in shapes]
    if None in marks:
        return False
    # No shape has a field in its mark's column, so that with one column no field of any is there.
    return all([mark[0] == marks[0][0] for mark in marks]) and are_unlike([mark[1] for mark in marks])


def has_even_sources(program):
    """Whether there is one source without keys, its shapes told apart."""
    if len(program.sources) != 1:
        return False
    source = program.sources[0]
    return source.by == () and are_told_apart(source.shapes)


def has_even_deeds(program):
    """Whether what is done and told rests on sums alone."""
    deeds = [deed[0] for _, _, deed in program.steps]
    parts = [part[0] for _, _, told, _ in program.lines for part in told]
    return "times" not in deeds and "ask" not in deeds and "words" not in parts


def is_even(program):
    """Whether this is an even program."""
    if not is_program(program) or not has_even_sources(program) or not has_even_deeds(program):
        return False
    texts = field_names(program.sources, "text")
    return (all([level in texts for level in program.levels])
            and len(program.flags) <= MOST_EVEN_FLAGS and len(program.boxes) <= MOST_EVEN_BOXES)


def refuse_uneven(program):
    """Refuse what is no even program."""
    if not is_even(program):
        raise NoEven("this is no even program")


def refuse_apart(one, other):
    """Refuse what is not two even programs that are held together."""
    refuse_uneven(one)
    refuse_uneven(other)
    if one.sources != other.sources or one.levels != other.levels:
        raise NoEven("these aren't held together")


def even_shapes(program):
    """The shapes of the one source."""
    return program.sources[0].shapes


def levelled_shapes(program):
    """The names of the levelled shapes."""
    return [shape.name for shape in even_shapes(program)
            if is_levelled(program.levels, [field[0] for field in shape.fields])]


def heights_from(program, shape, levelled):
    """Up to where a record of the shape may break."""
    if shape not in levelled_shapes(program):
        return [0]
    most = len(program.levels)
    return list(range(most + 1)) if levelled else [most]


def letters_from(program, stand):
    """Which letters may come from the stand of an even program."""
    told = [(shape.name, height) for shape in even_shapes(program)
            for height in heights_from(program, shape.name, stand[3])]
    return [*told, None]


def letters(one, stand):
    """Which letters may come from the stand, in some order."""
    refuse_uneven(one)
    return letters_from(one, stand)


def do_letter(program, on, numbers, is_first, letter, moved):
    """The machine of the program behind a round that begins with these flags on and these numbers."""
    machine = Machine(program)
    machine.lit.update({flag: True for flag in on})
    machine.numbers.update(numbers)
    if letter is None:
        do_last(machine, last_indicators(program))
    else:
        shape, height = letter
        worths = dict(zip(number_fields(program)[shape], moved))
        do_record(machine, round_indicators(program, shape, height, False), is_first, worths)
    return machine


def lines_of(machine):
    """The lines that the machine told."""
    return [moment[3] for moment in machine.moments if moment[0] == "line"]


def flags_on(program, machine):
    """The program's flags that are on."""
    return tuple([flag for flag in program.flags if machine.lit[flag]])


def held_by(machine, names):
    """What these hold."""
    return [machine.numbers[name] for name in names]


def both_stepped(one, other, stand, vector, letter, moved):
    """What stepped tells of two that are held together."""
    numbers = cells(one)
    behind_cells, behind_boxes = len(numbers), len(numbers) + len(one.boxes)
    own = dict(zip([*numbers, *one.boxes], vector[:behind_boxes]))
    others = dict(zip([*numbers, *other.boxes], [*vector[:behind_cells], *vector[behind_boxes:]]))
    first = do_letter(one, stand[0], own, stand[2], letter, moved)
    second = do_letter(other, stand[1], others, stand[2], letter, moved)
    if letter is None:
        return lines_of(first), lines_of(second), None, None
    levelled = stand[3] or letter[0] in levelled_shapes(one)
    behind = (flags_on(one, first), flags_on(other, second), False, levelled)
    held = (*held_by(first, numbers), *held_by(first, one.boxes), *held_by(second, other.boxes))
    return lines_of(first), lines_of(second), behind, held


def stepped(one, other, stand, vector, letter, moved):
    """The lines of both programs in the round of the letter, and the stand and the vector behind it."""
    refuse_apart(one, other)
    return both_stepped(one, other, stand, vector, letter, moved)
