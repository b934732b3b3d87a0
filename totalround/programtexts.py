"""Programs as texts, written and read."""

from totalround.errors import NoText
from totalround.programs import LEVEL_INDICATORS, TIMES, Program
from totalround.shapes import Shape, is_name, is_number_from
from totalround.sources import Source

# Which rows may stand behind one of each kind; "" is ahead of the first.
BEHIND = {
    "": ("source",),
    "source": ("keys", "shape", "source", "levels", "boxes", "flags", "step", "line"),
    "keys": ("shape", "source", "levels", "boxes", "flags", "step", "line"),
    "shape": ("field", "shape", "source", "levels", "boxes", "flags", "step", "line"),
    "field": ("field", "shape", "source", "levels", "boxes", "flags", "step", "line"),
    "levels": ("boxes", "flags", "step", "line"),
    "boxes": ("flags", "step", "line"),
    "flags": ("step", "line"),
    "step": ("step", "line"),
    "line": ("line",),
}
LEAST_SIGN = 32
MOST_SIGN = 126
MOST_FIGURES = 4
# The signs but for the one of number 37, which no text of the package has: of texts with it nothing is promised.
SIGNS_AHEAD = " !\"#$"
SIGNS_BEHIND = "&'()*+,-./0123456789:;<=>?@ABCDEFGHIJKLMNOPQRSTUVWXYZ[\\]^_`abcdefghijklmnopqrstuvwxyz{|}~"


def sum_text(terms):
    """A sum as it is written."""
    words = [f"{times}*{name}" if name else str(times) for times, name in terms]
    return " ".join(words) if words else "none"


def deed_text(deed):
    """A deed as it is written."""
    word = deed[0]
    if word == "set":
        return f"set {deed[1]} {sum_text(deed[2])}"
    if word == "ask":
        return f"ask {deed[1]} {deed[4]} {sum_text(deed[2])} ; {sum_text(deed[3])}"
    return " ".join(deed)


def part_text(part):
    """A part of a line as it is written."""
    kind, told = part
    if kind == "text":
        return "t" + ".".join([str(ord(sign)) for sign in told])
    return ("n:" if kind == "number" else "w:") + told


def conditions_words(conditions):
    """Conditions as they are written."""
    return [name if wanted else "-" + name for name, wanted in conditions]


def shape_rows(shape):
    """The rows of a shape and of its fields."""
    rows = [f"shape {shape.name}"]
    if shape.mark is not None:
        column, sign = shape.mark
        rows = [f"shape {shape.name} {column} {ord(sign)}"]
    for name, column, length, kind in shape.fields:
        rows.append(f"field {name} {column} {length} {kind}")
    return rows


def names_rows(word, names):
    """The row of these names, none where there are none."""
    return [" ".join([word, *names])] if names else []


def source_rows(source):
    """The rows of a source and of its shapes."""
    rows = [f"source {source.name}", *names_rows("keys", source.by)]
    for shape in source.shapes:
        rows.extend(shape_rows(shape))
    return rows


def step_row(step):
    """The row of a step."""
    time, conditions, deed = step
    return " ".join(["step", time, *conditions_words(conditions), ":", deed_text(deed)])


def line_row(line):
    """The row of a line."""
    time, conditions, parts, cleared = line
    told = [part_text(part) for part in parts]
    return " ".join(["line", time, *conditions_words(conditions), ":", *told, ":", *cleared])


def program_text(program):
    """The program as a text."""
    rows = []
    for source in program.sources:
        rows.extend(source_rows(source))
    rows.extend(names_rows("levels", program.levels))
    rows.extend(names_rows("boxes", program.boxes))
    rows.extend(names_rows("flags", program.flags))
    rows.extend([step_row(step) for step in program.steps])
    rows.extend([line_row(line) for line in program.lines])
    return "".join([row + "\n" for row in rows])


# From here on each function tells None of words that are none.

def all_read(things):
    """These as a tuple, where none of them is None."""
    return None if None in things else tuple(things)


def read_number(word):
    """The number that is written so."""
    figures = word.removeprefix("-")
    if not 1 <= len(figures) <= MOST_FIGURES or not all(["0" <= figure <= "9" for figure in figures]):
        return None
    return None if figures[0] == "0" and word != "0" else int(word)


def read_sign(word):
    """The sign of the number that is written so."""
    number = read_number(word)
    if not is_number_from(number, LEAST_SIGN, MOST_SIGN):
        return None
    place = number - LEAST_SIGN
    if place < len(SIGNS_AHEAD):
        return SIGNS_AHEAD[place]
    place = place - len(SIGNS_AHEAD) - 1
    return SIGNS_BEHIND[place] if place >= 0 else None


def read_name(word):
    """The name itself."""
    return word if is_name(word) else None


def read_names(words):
    """The names, one at least."""
    return all_read([read_name(word) for word in words]) if words else None


def read_word(words):
    """The one name that there is."""
    return read_name(words[0]) if len(words) == 1 else None


def read_shape(words):
    """The name and the mark of a shape."""
    if len(words) == 1:
        return (words[0], None) if is_name(words[0]) else None
    if len(words) != 3:
        return None
    mark = all_read([read_number(words[1]), read_sign(words[2])])
    return (words[0], mark) if is_name(words[0]) and mark is not None else None


def read_field(words):
    """A field of a shape."""
    if len(words) != 4 or words[3] not in ("text", "number"):
        return None
    return all_read([read_name(words[0]), read_number(words[1]), read_number(words[2]), words[3]])


def read_pair(word):
    """A number and a name, "" where none stands there, as in a sum."""
    figures, star, name = word.partition("*")
    if star and not is_name(name):
        return None
    times = read_number(figures)
    return None if times is None else (times, name)


def read_sum(words):
    """A sum."""
    if words == ["none"]:
        return ()
    return all_read([read_pair(word) for word in words]) if words else None


def read_ask(words):
    """The deed of an ask, by the words behind it."""
    if words.count(";") != 1 or words[0] not in ("under", "same", "over"):
        return None
    middle = words.index(";")
    return all_read(["ask", words[0], read_sum(words[2:middle]), read_sum(words[middle + 1:]), read_name(words[1])])


def read_deed(words):
    """What a step does."""
    if words == ["leave"]:
        return ("leave",)
    if words == [] or words[0] not in ("set", "times", "on", "off", "ask"):
        return None
    word, *others = words
    if word == "ask":
        return read_ask(others)
    if word == "set":
        return all_read([word, read_name(others[0]), read_sum(others[1:])]) if others else None
    many = 3 if word == "times" else 1
    return all_read([word, *[read_name(other) for other in others]]) if len(others) == many else None


def read_condition(word):
    """An indicator and whether it is to be on."""
    name = word.removeprefix("-")
    if is_name(name) or name in LEVEL_INDICATORS or name in ("MR", "LR"):
        return (name, name == word)
    return None


def read_signs(words):
    """The text of these signs' numbers."""
    signs = all_read([read_sign(word) for word in words])
    return None if signs is None else "".join(signs)


def read_part(word):
    """A part of a line."""
    mark, told = word[:2], word[2:]
    if mark in ("n:", "w:"):
        return all_read(["number" if mark == "n:" else "words", read_name(told)])
    if word == "t":
        return ("text", "")
    return all_read(["text", read_signs(word[1:].split("."))]) if word[:1] == "t" else None


def read_time(words):
    """The time and the conditions ahead of the colon."""
    if words == [] or words[0] not in TIMES:
        return None
    conditions = all_read([read_condition(word) for word in words[1:]])
    return None if conditions is None else (words[0], conditions)


def parted_at_colons(words):
    """The words ahead of, between and behind the colons, as lists."""
    lists = [[]]
    for word in words:
        if word == ":":
            lists.append([])
        else:
            lists[-1].append(word)
    return lists


def read_step(words):
    """A step."""
    lists = parted_at_colons(words)
    if len(lists) != 2:
        return None
    told = all_read([read_time(lists[0]), read_deed(lists[1])])
    return None if told is None else (*told[0], told[1])


def read_line(words):
    """A line."""
    lists = parted_at_colons(words)
    if len(lists) != 3:
        return None
    parts = all_read([read_part(word) for word in lists[1]])
    cleared = all_read([read_name(word) for word in lists[2]])
    told = all_read([read_time(lists[0]), parts, cleared])
    return None if told is None else (*told[0], *told[1:])


READERS = {
    "source": read_word,
    "keys": read_names,
    "shape": read_shape,
    "field": read_field,
    "levels": read_names,
    "boxes": read_names,
    "flags": read_names,
    "step": read_step,
    "line": read_line,
}


def read_row(row, ahead):
    """The kind of the row and what it tells, behind a row of the kind ahead."""
    word, *others = row.split(" ")
    if word not in BEHIND[ahead]:
        return None
    reader = READERS[word]
    told = reader(others)
    return None if told is None else (word, told)


def read_rows(text):
    """The kind of each row and what it tells; refused at the first row that is none."""
    if not isinstance(text, str):
        raise NoText(0)
    rows = text.split("\n")
    # Behind the last line feed nothing stands.
    is_ended = rows[-1] == ""
    if is_ended:
        rows.pop()
    found = []
    for number, row in enumerate(rows):
        told = read_row(row, found[-1][0] if found else "")
        if told is None:
            raise NoText(number)
        found.append(told)
    if not is_ended or found == []:
        raise NoText(len(rows))
    return found


def things_of(found, kind):
    """What the rows of this kind tell."""
    return [told for word, told in found if word == kind]


def names_of(found, kind):
    """The names in the one row of this kind, none where there is none."""
    rows = things_of(found, kind)
    return rows[0] if rows else ()


def drawn_sources(found):
    """For each source its name, its shapes and its keys, each shape with a list of its fields."""
    sources = []
    for word, told in found:
        if word == "source":
            sources.append([told, [], ()])
        elif word == "keys":
            sources[-1][2] = told
        elif word == "shape":
            sources[-1][1].append([*told, []])
        elif word == "field":
            sources[-1][1][-1][2].append(told)
    return sources


def made_source(name, drawn, by):
    """The source of these shapes."""
    shapes = [Shape(called, mark, tuple(fields)) for called, mark, fields in drawn]
    return Source(name, tuple(shapes), by=by)


def read_program(text):
    """The program that is written so."""
    found = read_rows(text)
    sources = [made_source(name, drawn, by) for name, drawn, by in drawn_sources(found)]
    return Program(
        tuple(sources), levels=names_of(found, "levels"), boxes=names_of(found, "boxes"),
        flags=names_of(found, "flags"), steps=tuple(things_of(found, "step")), lines=tuple(things_of(found, "line")))
