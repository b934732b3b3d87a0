"""The round: what a program does for each record, and at last."""

from totalround.errors import TooLong
from totalround.levels import heights
from totalround.merging import readings
from totalround.programs import LEVEL_INDICATORS, TIMES, cells, shape_names, word_cells
from totalround.terms import worth_of


class Ran:
    """What a run came to: the lines of each round, and what boxes and flags hold behind the last one."""

    def __init__(self, pages, boxes, flags):
        self.pages = pages
        self.boxes = boxes
        self.flags = flags


class Machine:
    """A program at work: what its boxes and cells hold, what is on, and the moments so far."""

    def __init__(self, program):
        self.numbers = {name: 0 for name in [*program.boxes, *cells(program)]}
        self.words = {name: "" for name in word_cells(program)}
        self.lit = {flag: False for flag in program.flags}
        self.steps = numbered(program.steps)
        self.lines = numbered(program.lines)
        self.moments = []
        self.done = 0


def numbered(things):
    """For each time its steps or lines, each behind its number in the program."""
    return {time: [(number, thing) for number, thing in enumerate(things) if thing[0] == time] for time in TIMES}


def round_indicators(program, shape, height, matches):
    """The indicators of a record's round, each with whether it is on."""
    lit = {name: name == shape for name in shape_names(program.sources)}
    for k, level in enumerate(LEVEL_INDICATORS[:len(program.levels)], start=1):
        lit[level] = k <= height
    lit["MR"] = matches
    lit["LR"] = False
    return lit


def last_indicators(program):
    """The indicators of the last round."""
    # No shape has a name of None, so that none of them is on.
    lit = round_indicators(program, None, len(program.levels), False)
    lit["LR"] = True
    return lit


def all_hold(machine, conditions):
    """Whether all these conditions hold now."""
    return all([machine.lit[name] == wanted for name, wanted in conditions])


def is_so(word, one, other):
    """Whether one number stands so against the other."""
    if word == "under":
        return one < other
    if word == "over":
        return one > other
    return one == other


def do_deed(machine, deed):
    """Do what the step does; a leave does nothing by itself."""
    word = deed[0]
    numbers = machine.numbers
    if word == "set":
        numbers[deed[1]] = worth_of(deed[2], numbers)
    elif word == "times":
        numbers[deed[1]] = numbers[deed[2]] * numbers[deed[3]]
    elif word == "ask":
        machine.lit[deed[4]] = is_so(deed[1], worth_of(deed[2], numbers), worth_of(deed[3], numbers))
    elif word != "leave":
        machine.lit[deed[1]] = word == "on"


def told_part(machine, part):
    """What the part is worth now."""
    kind, name = part
    if kind == "text":
        return name
    return machine.numbers[name] if kind == "number" else machine.words[name]


def note_done(machine, moment):
    """Note a step or a line that is done."""
    machine.moments.append(moment)
    machine.done += 1


def do_steps(machine, time):
    """Do the steps of this time, up to a leave."""
    for number, (_, conditions, deed) in machine.steps[time]:
        if not all_hold(machine, conditions):
            continue
        note_done(machine, ("step", number, time))
        do_deed(machine, deed)
        if deed[0] == "leave":
            return


def do_lines(machine, time):
    """Tell the lines of this time, and clear behind each what it clears."""
    for number, (_, conditions, parts, cleared) in machine.lines[time]:
        if not all_hold(machine, conditions):
            continue
        note_done(machine, ("line", number, time, tuple([told_part(machine, part) for part in parts])))
        for box in cleared:
            machine.numbers[box] = 0


def do_time(machine, time):
    """Do the steps and then the lines of this time."""
    do_steps(machine, time)
    do_lines(machine, time)


def move(machine, worths):
    """Move the fields' worths into their cells and word cells."""
    for name, worth in worths.items():
        if name in machine.words:
            machine.words[name] = worth
        else:
            machine.numbers[name] = worth


def refuse_longer(machine, most):
    """Refuse more than most steps and lines."""
    if machine.done > most:
        raise TooLong("more steps and lines are done")


def do_record(machine, lit, is_first, worths):
    """Do the round of a record with these indicators and worths."""
    machine.lit.update(lit)
    # Total time tells what ends, and ahead of the first record nothing has begun.
    if not is_first:
        do_time(machine, "total")
    move(machine, worths)
    do_time(machine, "detail")


def do_last(machine, lit):
    """Do the last round with these indicators."""
    machine.lit.update(lit)
    do_time(machine, "total")


def worked(program, rows, most):
    """The machine behind the last round; refused where more than most steps and lines are done."""
    told = readings(program.sources, rows)
    broken_up_to = heights(told, program.levels)
    machine = Machine(program)
    for k, (name, at, shape, matches, worths) in enumerate(told):
        machine.moments.append(("read", name, at, shape, broken_up_to[k], matches))
        do_record(machine, round_indicators(program, shape, broken_up_to[k], matches), k == 0, worths)
        refuse_longer(machine, most)
    machine.moments.append(("last",))
    do_last(machine, last_indicators(program))
    refuse_longer(machine, most)
    return machine


def pages_of(moments):
    """The lines that are told in each round."""
    pages = []
    for moment in moments:
        if moment[0] in ("read", "last"):
            pages.append([])
        elif moment[0] == "line":
            pages[-1].append(moment[3])
    return pages


def run(program, rows, *, most=3000):
    """The lines of each round, and the boxes and flags behind the last one."""
    machine = worked(program, rows, most)
    boxes = {box: machine.numbers[box] for box in program.boxes}
    flags = {flag: machine.lit[flag] for flag in program.flags}
    return Ran(pages_of(machine.moments), boxes, flags)


def trace(program, rows, *, most=3000):
    """Each moment of the run, in order."""
    return worked(program, rows, most).moments
