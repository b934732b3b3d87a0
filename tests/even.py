"""Even programs of all kinds, and what is told of them plainly, by fractions and by trying all records."""

import itertools
from fractions import Fraction

from tests.things import number, text
from totalround.evens import letters, stepped
from totalround.programs import Program, cells
from totalround.records import laid
from totalround.rounds import run
from totalround.shapes import Shape
from totalround.sources import Source

# An aa is levelled by both, a bb is not, a cc is and has no numbers.
AA = Shape("aa", (1, "a"), (text("day", 2), text("town", 5), number("qty", 10), number("price", 14)))
BB = Shape("bb", (1, "b"), (text("day", 3), number("qty", 10)))
CC = Shape("cc", (1, "c"), (text("town", 2, 2), text("day", 20)))
SOURCES = (Source("book", (AA, BB, CC)),)
LEVELS = ("day", "town")
SHAPES = {shape.name: shape for shape in (AA, BB, CC)}


def aa(day="x", town="x", qty=0, price=0):
    return laid(AA, {"day": day, "town": town, "qty": qty, "price": price})


def bb(day="x", qty=0):
    return laid(BB, {"day": day, "qty": qty})


def cc(day="x", town="x"):
    return laid(CC, {"day": day, "town": town})


def even(steps=(), lines=(), *, boxes=("a", "b"), flags=("f",), levels=LEVELS, sources=SOURCES):
    """An even program over the book."""
    return Program(sources, levels=levels, boxes=boxes, flags=flags, steps=tuple(steps), lines=tuple(lines))


def some_even(rng, boxes, flags, levels=LEVELS):
    """An even program of all kinds of steps and lines."""
    numbers = cells(Program(SOURCES))
    indicators = [*SHAPES, "LR", "MR", *flags, *flags, *["L1", "L2"][:len(levels)]]

    def conditions():
        return tuple((rng.choice(indicators), rng.random() < 0.6) for _ in range(rng.choice((0, 1, 1, 2))))

    def deed():
        word = rng.choice(("set", "set", "set", "on", "off", "leave"))
        if word == "set":
            terms = tuple((rng.choice((-1, 1, 1, 2)), rng.choice(["", *boxes, *boxes, *numbers])) for _ in range(rng.randint(0, 3)))
            return (word, rng.choice(boxes), terms)
        return (word, rng.choice(flags)) if word in ("on", "off") and flags else ("leave",)

    def part():
        return ("number", rng.choice([*boxes, *numbers])) if rng.random() < 0.8 else ("text", rng.choice(("x", "")))

    def when():
        return rng.choice(("total", "detail"))

    steps = tuple((when(), conditions(), deed()) for _ in range(rng.randint(0, 5)))
    lines = tuple((when(), conditions(), tuple(part() for _ in range(rng.randint(0, 2))),
                   tuple(rng.choice(boxes) for _ in range(rng.choice((0, 0, 1))))) for _ in range(rng.randint(0, 2)))
    return Program(SOURCES, levels=levels, boxes=boxes, flags=flags, steps=steps, lines=lines)


def plain_echelon(rows):
    """The rows of the reduced echelon form, by fractions."""
    rows = [[Fraction(number) for number in row] for row in rows]
    done = []
    for column in range(len(rows[0]) if rows else 0):
        pivot = next((row for row in rows if row[column]), None)
        if pivot is None:
            continue
        rows.remove(pivot)
        pivot = [number / pivot[column] for number in pivot]
        rows = [[a - row[column] * b for a, b in zip(row, pivot)] for row in rows]
        done = [[a - row[column] * b for a, b in zip(row, pivot)] for row in done] + [pivot]
    return done


def plain_rank(rows):
    """How many rows stay, by fractions."""
    return len(plain_echelon(rows))


def plain_is_mix(vectors, vector):
    """Whether fractions that are 1 together make the vector, by fractions."""
    rows = [(*each, 1) for each in vectors]
    return bool(vectors) and plain_rank(rows) == plain_rank([*rows, (*vector, 1)])


def few_records(most):
    """All lists of up to so many records, of a few."""
    records = [aa(day, town, *moved) for day, town in ("xx", "yx", "xy") for moved in ((0, 0), (1, 0), (2, 3))]
    records += [bb(qty=0), bb(qty=2), cc("x", "x"), cc("y", "y")]
    for many in range(most + 1):
        for some in itertools.product(records, repeat=many):
            yield list(some)


def pages(program, records):
    """What the program prints for these records."""
    return run(program, {"book": records}, most=10 ** 6).pages


def first_other_round(one, other, records):
    """The first round in which both print otherwise, None of none."""
    for at, (page, told) in enumerate(zip(pages(one, records), pages(other, records))):
        if page != told:
            return at
    return None


def plain_is_paper(one, other, paper):
    """Whether the pairs of stands and vectors are a paper, word by word as [10.2] tells."""
    table = dict(paper)
    width = len(cells(one)) + len(one.boxes) + len(other.boxes)
    if len(table) != len(paper) or (0,) * width not in table.get(((), (), True, False), ()):
        return False
    fields = {shape.name: [field for field in shape.fields if field[3] == "number"] for shape in one.sources[0].shapes}
    for stand, vectors in paper:
        for vector, letter in itertools.product(vectors, letters(one, stand)):
            many = 0 if letter is None else len(fields[letter[0]])
            for at in range(-1, many):
                moved = tuple(int(k == at) for k in range(many))
                lines, others, behind, held = stepped(one, other, stand, vector, letter, moved)
                if lines != others:
                    return False
                if behind is not None and not plain_is_mix(table.get(behind, ()), held):
                    return False
    return True
