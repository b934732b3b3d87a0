"""A plain round, told apart from the package's own, and programs and rows of all kinds to hold both together."""

from tests.things import number, text
from totalround.levels import broken
from totalround.merging import ordered
from totalround.programs import Program, cells, word_cells
from totalround.records import laid
from totalround.shapes import Shape
from totalround.sources import Source, cut_by

ITEM = Shape("item", (1, "i"), (number("no", 2), text("area", 6), text("town", 9), number("qty", 12)))
PART = Shape("part", (1, "p"), (number("id", 2), text("area", 6), number("qty", 20), number("price", 30)))
NOTE = Shape("note", (1, "n"), (text("words", 2, 4), number("pages", 10)))
BARE = Shape("bare", None, ())

# Each layout: its sources, and the levels that its programs may have.
LAYOUTS = (
    ((Source("a", (ITEM, NOTE), by=("no",)), Source("b", (PART, BARE), by=("id",))), ("area", "town")),
    ((Source("a", (ITEM, PART, NOTE)),), ("area", "town", "qty")),
    ((Source("a", (NOTE,)), Source("b", (ITEM, BARE))), ("town", "area")),
)


def plain_run(program, rows):
    """The pages, boxes, flags and moments of the run, word by word as [6.1] to [6.3] tell."""
    held = dict.fromkeys(cells(program), 0) | dict.fromkeys(program.boxes, 0)
    texts = dict.fromkeys(word_cells(program), "")
    flags = dict.fromkeys(program.flags, False)
    places = {source.name: source for source in program.sources}
    levels = [f"L{k + 1}" for k in range(len(program.levels))]
    moments, pages = [], []

    def worth(terms):
        total = 0
        for many, name in terms:
            total += many * (held[name] if name else 1)
        return total

    def time(which, on):
        def holds(conditions):
            return all((name in on or flags.get(name) is True) is wanted for name, wanted in conditions)
        for k, (when, conditions, deed) in enumerate(program.steps):
            if when != which or not holds(conditions):
                continue
            moments.append(("step", k, which))
            match deed:
                case ("set", box, terms):
                    held[box] = worth(terms)
                case ("times", box, x, y):
                    held[box] = held[x] * held[y]
                case ("on" | "off" as word, flag):
                    flags[flag] = word == "on"
                case ("ask", word, one, other, flag):
                    one, other = worth(one), worth(other)
                    flags[flag] = {"under": one < other, "same": one == other, "over": one > other}[word]
                case ("leave",):
                    break
        for k, (when, conditions, parts, cleared) in enumerate(program.lines):
            if when == which and holds(conditions):
                tables = {"text": {}, "number": held, "words": texts}
                told = tuple(tables[kind].get(name, name) for kind, name in parts)
                moments.append(("line", k, which, told))
                pages[-1].append(told)
                held.update(dict.fromkeys(cleared, 0))

    heights = broken(program.sources, rows, program.levels)
    for first, (record, h) in enumerate(zip(ordered(program.sources, rows), heights)):
        name, at, shape, matches = record
        pages.append([])
        moments.append(("read", name, at, shape, h, matches))
        on = {shape, *levels[:h]} | ({"MR"} if matches else set())
        if first:
            time("total", on)
        for field, moved in cut_by(places[name], rows[name][at])[1].items():
            (held if isinstance(moved, int) else texts)[field] = moved
        time("detail", on)
    pages.append([])
    moments.append(("last",))
    time("total", {"LR", *levels})
    return pages, {box: held[box] for box in program.boxes}, flags, moments


def some_rows(rng, sources, most):
    """Rows of these sources, up to so many in each, with keys that don't fall."""
    rows = {}
    for source in sources:
        key = -2
        rows[source.name] = []
        for _ in range(rng.randint(0, most)):
            shape = rng.choice(source.shapes)
            key += rng.choice((0, 0, 1, 2))
            worths = {}
            for name, _, length, kind in shape.fields:
                if name in source.by:
                    worths[name] = key
                elif kind == "text":
                    worths[name] = rng.choice(("x", "y", ""))[:length]
                else:
                    worths[name] = rng.choice((-9, -1, 0, 1, 2, 3, 50))
            rows[source.name].append(laid(shape, worths))
    return rows


def some_sum(rng, boxes, numbers):
    """A sum over these."""
    pairs = []
    for _ in range(rng.randint(0, 3)):
        name = rng.choice(["", *boxes, *numbers])
        pairs.append((rng.randint(-2, 2) if name in boxes else rng.choice((-999, -3, 1, 1, 2, 7)), name))
    return tuple(pairs)


def some_conditions(rng, indicators):
    """Conditions upon these."""
    return tuple((rng.choice(indicators), rng.random() < 0.7) for _ in range(rng.choice((0, 0, 1, 1, 2, 3))))


def some_program(rng, layout, *, words=("set", "set", "set", "times", "on", "off", "ask", "leave"), most=12):
    """A program of this layout whose steps do these deeds."""
    sources, levels = layout
    levels = levels[:rng.randint(0, len(levels))]
    bare = Program(sources)
    boxes, flags = ("va", "vb", "vc"), ("fa", "fb")
    numbers, texts = cells(bare), word_cells(bare)
    shapes = [shape.name for source in sources for shape in source.shapes]
    indicators = [*shapes, *flags, *flags, "MR", "LR", *[f"L{k + 1}" for k in range(len(levels))]]

    def deed():
        word = rng.choice(words)
        if word == "set":
            return (word, rng.choice(boxes), some_sum(rng, boxes, numbers))
        if word == "times":
            return (word, rng.choice(boxes), rng.choice(numbers), rng.choice(numbers))
        if word == "ask":
            kind = rng.choice(("under", "same", "over"))
            return (word, kind, some_sum(rng, boxes, numbers), some_sum(rng, boxes, numbers), rng.choice(flags))
        return (word, rng.choice(flags)) if word in ("on", "off") else (word,)

    def part():
        kind = rng.choice(("text", "number", "number", "words"))
        if kind == "text":
            return (kind, rng.choice(("sum", "", "a b", "qty", "x:;~")))
        return (kind, rng.choice(texts if kind == "words" else [*boxes, *numbers]))

    def when():
        return rng.choice(("total", "detail"))

    steps = tuple((when(), some_conditions(rng, indicators), deed()) for _ in range(rng.randint(0, most)))
    lines = tuple((when(), some_conditions(rng, indicators), tuple(part() for _ in range(rng.randint(0, 4))),
                   tuple(rng.choice(boxes) for _ in range(rng.choice((0, 0, 1, 2))))) for _ in range(rng.randint(0, 5)))
    return Program(sources, levels=levels, boxes=boxes, flags=flags, steps=steps, lines=lines)
