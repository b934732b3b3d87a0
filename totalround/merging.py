"""The order of reading: the records of all sources, merged by their keys."""

from totalround.errors import NoOrder, NoRecord, NoSource
from totalround.shapes import are_unlike
from totalround.sources import cut_by, have_fields_alike, is_source, key_in

MOST_SOURCES = 4


def all_shapes(sources):
    """The shapes of all these sources, in order."""
    return [shape for source in sources for shape in source.shapes]


def all_fields(shapes):
    """The fields of all these shapes, in order."""
    return [field for shape in shapes for field in shape.fields]


def key_kinds(source):
    """The length and kind of each of the source's keys, in order."""
    kinds = {field[0]: (field[2], field[3]) for field in all_fields(source.shapes)}
    return [kinds[key] for key in source.by]


def have_keys_alike(sources):
    """Whether those with keys have as many, of the same lengths and kinds in order."""
    keyed = [key_kinds(source) for source in sources if source.by != ()]
    return all([kinds == keyed[0] for kinds in keyed])


def is_sources(thing):
    """Whether these are sources that can be read in one order."""
    if not isinstance(thing, tuple) or not 1 <= len(thing) <= MOST_SOURCES:
        return False
    if not all([is_source(source) for source in thing]):
        return False
    if not are_unlike([source.name for source in thing]):
        return False
    return have_fields_alike(all_shapes(thing)) and have_keys_alike(thing)


def cut_rows(source, records):
    """For each of the source's records its shape's name and its worths."""
    cuts = []
    for record in records:
        try:
            cuts.append(cut_by(source, record))
        except NoRecord as error:
            raise NoRecord(f"{source.name}/{error.name}") from None
    return cuts


def cut_all(sources, rows):
    """For each source what cut_rows tells of its records."""
    if not is_sources(sources):
        raise NoSource("these are no sources")
    return [cut_rows(source, rows.get(source.name, [])) for source in sources]


def ranks_of(source, cuts):
    """For each of the source's records its key, () of a loose one."""
    keys = [key_in(source, worths) for _, worths in cuts]
    # () is less than every key, so that of the next records a loose one is the least.
    return [() if key is None else key for key in keys]


def refuse_falls(name, ranks):
    """Refuse the first key of this source that is less than the one ahead of it."""
    last = ()
    for at, rank in enumerate(ranks):
        if rank == ():
            continue
        if rank < last:
            raise NoOrder(name, at)
        last = rank


def matching_keys(sources, ranks):
    """The keys that each source with keys has, none where fewer than two have keys."""
    keyed = [queue for source, queue in zip(sources, ranks) if source.by != ()]
    if len(keyed) < 2:
        return {}
    found = {rank: True for rank in keyed[0] if rank != ()}
    for queue in keyed[1:]:
        here = {rank: True for rank in queue}
        found = {rank: True for rank in found if rank in here}
    return found


def turns(ranks):
    """The pairs of a source's number and a row's number, in the order of reading."""
    told = []
    ahead = [0] * len(ranks)
    for _ in range(sum([len(queue) for queue in ranks])):
        # The source's number stands behind the rank, so of like ranks the first source's is the least.
        nexts = [(queue[ahead[k]], k) for k, queue in enumerate(ranks) if ahead[k] < len(queue)]
        least = min(nexts)[1]
        told.append((least, ahead[least]))
        ahead[least] += 1
    return told


def readings(sources, rows):
    """What ordered tells of each record, with its worths behind it."""
    cuts = cut_all(sources, rows)
    ranks = [ranks_of(source, pairs) for source, pairs in zip(sources, cuts)]
    for source, queue in zip(sources, ranks):
        refuse_falls(source.name, queue)
    matching = matching_keys(sources, ranks)
    told = []
    for which, at in turns(ranks):
        shape, worths = cuts[which][at]
        told.append((sources[which].name, at, shape, ranks[which][at] in matching, worths))
    return told


def ordered(sources, rows):
    """(source's name, row's number, shape's name, matches) of all records, in the order of reading."""
    return [reading[:4] for reading in readings(sources, rows)]
