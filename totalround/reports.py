"""Reports: the sum and the count of each group of levels."""

from totalround.errors import NoProgram
from totalround.levels import is_levelled
from totalround.merging import all_shapes, is_sources, readings
from totalround.programs import LEVEL_INDICATORS, Program, are_levels, field_names
from totalround.shapes import is_number
from totalround.terms import is_one_of

LETTERS = "abcdefgh"


def are_report_parts(sources, levels, cell, prefix):
    """Whether these are what a report is of; whether its names may stand is for the program to tell."""
    if not is_sources(sources) or not are_levels(levels, sources) or levels == ():
        return False
    return is_one_of(cell, field_names(sources, "number")) and isinstance(prefix, str)


def box_pairs(many, prefix):
    """So many pairs of a box for a sum and one for a count."""
    return [(prefix + LETTERS[2 * k], prefix + LETTERS[2 * k + 1]) for k in range(many)]


def step_added(time, indicator, box, name):
    """The step that adds what the name holds to the box, "" of one more."""
    return (time, ((indicator, True),), ("set", box, ((1, box), (1, name))))


def record_steps(shape, levels, cell, boxes, flag):
    """What is done for each record of the shape: nothing where it isn't levelled."""
    names = [field[0] for field in shape.fields]
    if not is_levelled(levels, names):
        return []
    steps = [("detail", ((shape.name, True),), ("on", flag))]
    if cell in names:
        steps.append(step_added("detail", shape.name, boxes[0], cell))
        steps.append(step_added("detail", shape.name, boxes[1], ""))
    return steps


def break_steps(levels, pairs):
    """What is done for each level that breaks: its sum and count go into those of the next one."""
    steps = []
    for k, indicator in enumerate(LEVEL_INDICATORS[:len(levels)]):
        for box, above in zip(pairs[k], pairs[k + 1]):
            steps.append(step_added("total", indicator, above, box))
    return steps


def total_line(indicator, conditions, boxes):
    """The line of a sum and a count, which are cleared behind it."""
    parts = (("text", indicator), ("number", boxes[0]), ("number", boxes[1]))
    return ("total", ((indicator, True), *conditions), parts, boxes)


def report(sources, levels, cell, *, prefix=""):
    """The program that tells at each break the sum and the count of the groups that end."""
    if not are_report_parts(sources, levels, cell, prefix):
        raise NoProgram("these make no report")
    pairs = box_pairs(len(levels) + 1, prefix)
    flag = prefix + "z"
    steps = []
    for shape in all_shapes(sources):
        steps.extend(record_steps(shape, levels, cell, pairs[0], flag))
    steps.extend(break_steps(levels, pairs))
    # All levels break with the first levelled record, where no group ends, so the flag is asked besides.
    lines = [total_line(indicator, ((flag, True),), pairs[k])
             for k, indicator in enumerate(LEVEL_INDICATORS[:len(levels)])]
    lines.append(total_line("LR", (), pairs[-1]))
    boxes = tuple([box for pair in pairs for box in pair])
    return Program(sources, levels=levels, boxes=boxes, flags=(flag,), steps=tuple(steps), lines=tuple(lines))


def levelled_worths(sources, rows, levels):
    """The worths of the levelled records, in the order of reading."""
    told = [reading[4] for reading in readings(sources, rows)]
    return [worths for worths in told if is_levelled(levels, worths)]


def parted(held, levels):
    """Those that follow one another with the same worths of these levels: pairs of these and a list."""
    groups = []
    for worths in held:
        key = tuple([worths[level] for level in levels])
        if groups == [] or groups[-1][0] != key:
            groups.append((key, []))
        groups[-1][1].append(worths)
    return groups


def totals(group, cell):
    """The sum and the count of the records that have the cell."""
    numbers = [worths[cell] for worths in group if is_number(worths.get(cell))]
    return sum(numbers), len(numbers)


def grouped(sources, rows, levels, cell):
    """The lines of the report, by a plain grouping."""
    held = levelled_worths(sources, rows, levels)
    ends = []
    for k in range(len(levels)):
        end = 0
        for _, group in parted(held, levels[k:]):
            end += len(group)
            ends.append((end, k, (f"L{k + 1}", *totals(group, cell))))
    told = [line for _, _, line in sorted(ends, key=lambda found: found[:2])]
    return [*told, ("LR", *totals(held, cell))]


def group_keys(sources, rows, levels, k):
    """The worths of levels k and up of each group of level k, in order."""
    upper = [level for number, level in enumerate(levels, start=1) if number >= k]
    return [key for key, _ in parted(levelled_worths(sources, rows, levels), upper)]
