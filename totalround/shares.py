"""Shares: how often each record's cell counts in each number that is told."""

from totalround.errors import NoEven, NoRecord
from totalround.merging import cut_row, refuse_no_sources
from totalround.programs import cells, number_fields
from totalround.rounds import trace
from totalround.shapes import is_number

# A form tells what a number comes to: its times for each (source, row, cell), and under REST the rest.
REST = ""


class Ledger:
    """What stands behind boxes and cells while the moments of a run go by."""

    def __init__(self, program):
        self.program = program
        self.forms = {name: {} for name in [*program.boxes, *cells(program)]}
        self.fields = number_fields(program)
        self.order = {cell: k for k, cell in enumerate(cells(program))}
        # The record that is read and not yet moved, (source, row, shape).
        self.coming = None
        self.places = {}
        self.pages = []


def is_plain(program):
    """Whether no step is a times."""
    return all([deed[0] != "times" for _, _, deed in program.steps])


def add_times(form, times, other):
    """Add so many times the other form to the form."""
    for share, worth in other.items():
        form[share] = form.get(share, 0) + times * worth


def form_of(forms, terms):
    """What the sum comes to."""
    form = {}
    for times, name in terms:
        add_times(form, times, {REST: 1} if name == "" else forms[name])
    return form


def move_coming(ledger):
    """Let the cells stand for the fields of the record that is read."""
    if ledger.coming is None:
        return
    source, row, shape = ledger.coming
    for cell in ledger.fields[shape]:
        ledger.forms[cell] = {(source, row, cell): 1}
    ledger.coming = None


def open_round(ledger, moment):
    """Begin the round of a record or the last one."""
    move_coming(ledger)
    ledger.pages.append([])
    if moment[0] == "read":
        ledger.coming = moment[1:4]
        # Where the record stands in the order of reading.
        ledger.places[moment[1:3]] = len(ledger.places)


def do_step(ledger, deed):
    """Do what the step does to forms."""
    if deed[0] == "set":
        ledger.forms[deed[1]] = form_of(ledger.forms, deed[2])


def in_order(ledger, form):
    """The shares of the form, in the order of reading and then of cells."""
    some = [(share, times) for share, times in form.items() if share != REST and times != 0]
    return tuple(sorted(some, key=lambda pair: (ledger.places[pair[0][:2]], ledger.order[pair[0][2]])))


def told_line(ledger, line, worths):
    """For each part of the line the text itself, or the rest and the shares of the number."""
    told = []
    for (kind, name), worth in zip(line[2], worths):
        if kind == "number":
            form = ledger.forms[name]
            told.append((form.get(REST, 0), in_order(ledger, form)))
        else:
            told.append(worth)
    return tuple(told)


def do_line(ledger, line, worths):
    """Tell the line, and clear what it clears."""
    ledger.pages[-1].append(told_line(ledger, line, worths))
    for box in line[3]:
        ledger.forms[box] = {}


def follow(ledger, moment):
    """Go on by one moment."""
    word = moment[0]
    if word in ("read", "last"):
        open_round(ledger, moment)
        return
    # At total time the cells still stand for the elder record.
    if moment[2] == "detail":
        move_coming(ledger)
    if word == "step":
        do_step(ledger, ledger.program.steps[moment[1]][2])
    else:
        do_line(ledger, ledger.program.lines[moment[1]], moment[3])


def shares(program, rows):
    """The lines of each round as run tells them, with the rest and the shares of each number in its place."""
    if not is_plain(program):
        raise NoEven("the program has times")
    ledger = Ledger(program)
    for moment in trace(program, rows):
        follow(ledger, moment)
    return ledger.pages


def worth_at(worths, share):
    """What stands in the cell of the record."""
    source, row, cell = share
    records = worths.get(source, [])
    if not 0 <= row < len(records):
        raise NoRecord(f"{source}/")
    worth = records[row].get(cell)
    if not is_number(worth):
        raise NoRecord(f"{source}/{cell}")
    return worth


def came_to(worths, thing):
    """What a told text or number comes to."""
    if isinstance(thing, str):
        return thing
    rest, some = thing
    return rest + sum([times * worth_at(worths, share) for share, times in some])


def shared(sources, rows, told):
    """The lines of each round that the told shares come to with these rows."""
    refuse_no_sources(sources)
    # Other numbers may stand where the keys are, so that their order isn't looked at.
    worths = {source.name: [cut_row(source, record)[1] for record in rows.get(source.name, [])]
              for source in sources}
    return [[tuple([came_to(worths, thing) for thing in line]) for line in page] for page in told]
