"""The desk: records come late and are taken back, and what the program tells of them is asked for again and again."""

from totalround.errors import NoProgram, NoRecord, NoSource
from totalround.merging import read_row
from totalround.programs import Program
from totalround.rounds import run
from totalround.terms import is_one_of


def own_program(thing):
    """A program like this one, NoProgram where it is none."""
    if not isinstance(thing, Program):
        raise NoProgram("this is no program")
    return Program(thing.sources, levels=thing.levels, boxes=thing.boxes, flags=thing.flags,
                   steps=thing.steps, lines=thing.lines)


class Desk:
    """A program with the records that have come so far."""

    def __init__(self, program):
        # One of its own, so that the one handed in may be changed later.
        self._program = own_program(program)
        self._rows = {source.name: [] for source in self._program.sources}
        # For each record the rank of the last keyed one up to it.
        self._ranks = {source.name: [] for source in self._program.sources}
        self._noted = []
        self._shown = []

    def __len__(self):
        return len([record for records in self._rows.values() for record in records])

    def put(self, name, record):
        """Put a record behind the others of the source."""
        self._noted.append(("begin", "put"))
        try:
            self._put_behind(self._source(name), record)
        finally:
            self._noted.append(("end", "put"))

    def drop(self, name):
        """Take the last record of the source back."""
        self._noted.append(("begin", "drop"))
        try:
            self._take_back(self._source(name))
        finally:
            self._noted.append(("end", "drop"))

    def turn(self, program):
        """Go on with another program of equal sources."""
        self._noted.append(("begin", "turn"))
        try:
            self._go_on_with(own_program(program))
        finally:
            self._noted.append(("end", "turn"))

    def told(self):
        """The lines of all rounds."""
        return [line for page in run(self._program, self._rows).pages for line in page]

    def fresh(self):
        """The lines behind those noted at the last asking, where these are still the first ones; else all."""
        lines = self.told()
        known = self._shown
        self._shown = lines
        start = len(known) if lines[:len(known)] == known else 0
        return lines[start:]

    def records(self):
        """For each source its records."""
        return {name: list(records) for name, records in self._rows.items()}

    def log(self):
        """The begin and the end of each put, drop and turn."""
        return list(self._noted)

    def _source(self, name):
        """The source of this name."""
        if not is_one_of(name, self._rows):
            raise NoSource("there is no such source")
        return [source for source in self._program.sources if source.name == name][0]

    def _put_behind(self, source, record):
        """Put the record behind the others, refused as it would be there."""
        ranks = self._ranks[source.name]
        last = ranks[-1] if ranks else ()
        _, _, rank = read_row(source, record, last, len(ranks))
        self._rows[source.name].append(record)
        ranks.append(rank or last)

    def _take_back(self, source):
        """Take the last record back."""
        if self._rows[source.name] == []:
            raise NoRecord(source.name)
        self._rows[source.name].pop()
        self._ranks[source.name].pop()

    def _go_on_with(self, program):
        """Take this program."""
        if program.sources != self._program.sources:
            raise NoProgram("its sources are others")
        self._program = program
