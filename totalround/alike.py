"""Whether two even programs print the same for all records: a paper that shows it, or records on which they don't."""

from totalround.evens import both_stepped, even_shapes, letters_from, refuse_apart
from totalround.programs import cells, number_fields, word_cells
from totalround.records import laid
from totalround.shapes import is_number
from totalround.vectors import is_mixed, mixes_of, widened

# Ahead of the first record no flag is on.
BEGIN = ((), (), True, False)


class Place:
    """A stand and a vector, and the letters and moved numbers on the way there."""

    def __init__(self, stand, vector, path):
        self.stand = stand
        self.vector = vector
        self.path = path


class Search:
    """Two programs and, for each stand so far, its vectors that are no mixes of each other."""

    def __init__(self, one, other):
        self.one = one
        self.other = other
        self.vectors = {}
        self.bases = {}


def count_numbers(one, other):
    """How many numbers a vector has."""
    return len(cells(one)) + len(one.boxes) + len(other.boxes)


def moves_of(program, letter, is_first):
    """The moved numbers to try: all 0, and for the first vector of a stand all 0 but one besides."""
    many = 0 if letter is None else len(number_fields(program)[letter[0]])
    none = (0,) * many
    # All that comes of a round are sums, so what a moved number adds is the same for all vectors of a stand.
    if not is_first:
        return [none]
    return [none, *[(*none[:k], 1, *none[k + 1:]) for k in range(many)]]


def keep(search, place):
    """Keep the place's vector where it is no mix of those of its stand; whether it was kept."""
    basis = search.bases.get(place.stand, [])
    wider = widened(basis, (*place.vector, 1))
    if len(wider) == len(basis):
        return False
    search.bases[place.stand] = wider
    search.vectors.setdefault(place.stand, []).append(place.vector)
    return True


def parted_at_last(search, places):
    """The way to the first of these places behind which the last rounds differ, None of none."""
    for place in places:
        lines, others, _, _ = both_stepped(search.one, search.other, place.stand, place.vector, None, ())
        if lines != others:
            return place.path
    return None


def ways_from(search, place):
    """The pairs of a letter and moved numbers to try from the place, each of a record."""
    is_first = search.vectors[place.stand][0] == place.vector
    return [(letter, moved) for letter in letters_from(search.one, place.stand) if letter is not None
            for moved in moves_of(search.one, letter, is_first)]


def gone_on(search, places):
    """The way to a round that differs, or None; and the places that are kept, one record further on."""
    found = []
    for place in places:
        for letter, moved in ways_from(search, place):
            lines, others, stand, vector = both_stepped(
                search.one, search.other, place.stand, place.vector, letter, moved)
            behind = Place(stand, vector, (*place.path, (letter, moved)))
            if lines != others:
                return behind.path, []
            if keep(search, behind):
                found.append(behind)
    return None, found


def records_of(program, path):
    """Records that come with these letters and moved numbers."""
    shapes = {shape.name: shape for shape in even_shapes(program)}
    fields = number_fields(program)
    texts = {name: "" for name in word_cells(program)}
    told = []
    for (name, height), moved in path:
        if height > 0:
            # That level alone changes, so that it is the highest that breaks.
            level = program.levels[height - 1]
            texts[level] = "b" if texts[level] == "a" else "a"
        told.append(laid(shapes[name], {**texts, **dict(zip(fields[name], moved))}))
    return told


def alike(one, other):
    """A paper that both print the same, or the fewest records on which they don't and the round in which."""
    refuse_apart(one, other)
    search = Search(one, other)
    places = [Place(BEGIN, (0,) * count_numbers(one, other), ())]
    keep(search, places[0])
    # Those of one number of records together, so that no way is longer than it has to be.
    while places:
        path = parted_at_last(search, places)
        if path is not None:
            return ("unlike", records_of(one, path), len(path))
        path, places = gone_on(search, places)
        if path is not None:
            return ("unlike", records_of(one, path), len(path) - 1)
    return ("alike", tuple([(stand, tuple(vectors)) for stand, vectors in search.vectors.items()]))


def are_some_in_order(thing, flags):
    """Whether these are some of the flags, in order."""
    if not isinstance(thing, tuple) or not all([isinstance(flag, str) for flag in thing]):
        return False
    return thing == tuple([flag for flag in flags if flag in thing])


def is_stand(thing, one, other):
    """Whether this is a stand of both."""
    if not isinstance(thing, tuple) or len(thing) != 4:
        return False
    if not are_some_in_order(thing[0], one.flags) or not are_some_in_order(thing[1], other.flags):
        return False
    return isinstance(thing[2], bool) and isinstance(thing[3], bool)


def is_vector(thing, many):
    """Whether this is a vector of so many numbers."""
    return isinstance(thing, tuple) and len(thing) == many and all([is_number(number) for number in thing])


def is_entry(thing, one, other):
    """Whether this is a pair of a stand and its vectors."""
    if not isinstance(thing, tuple) or len(thing) != 2 or not is_stand(thing[0], one, other):
        return False
    vectors = thing[1]
    if not isinstance(vectors, tuple) or vectors == ():
        return False
    return all([is_vector(vector, count_numbers(one, other)) for vector in vectors])


def holds_in_round(search, place, letter, moved):
    """Whether both print the same, and what comes of it is a mix of the vectors of the stand behind."""
    lines, others, stand, vector = both_stepped(search.one, search.other, place.stand, place.vector, letter, moved)
    if lines != others:
        return False
    return stand is None or (stand in search.bases and is_mixed(search.bases[stand], vector))


def holds_at(search, stand):
    """Whether this holds from all vectors of the stand, for all letters."""
    for k, vector in enumerate(search.vectors[stand]):
        place = Place(stand, vector, ())
        for letter in letters_from(search.one, stand):
            for moved in moves_of(search.one, letter, k == 0):
                if not holds_in_round(search, place, letter, moved):
                    return False
    return True


def is_paper(one, other, paper):
    """Whether this is a paper that both print the same."""
    refuse_apart(one, other)
    if not isinstance(paper, tuple) or not all([is_entry(entry, one, other) for entry in paper]):
        return False
    search = Search(one, other)
    search.vectors = {stand: vectors for stand, vectors in paper}
    search.bases = {stand: mixes_of(vectors) for stand, vectors in paper}
    if len(search.vectors) != len(paper) or (0,) * count_numbers(one, other) not in search.vectors.get(BEGIN, ()):
        return False
    return all([holds_at(search, stand) for stand in search.vectors])
