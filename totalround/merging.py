"""The order of reading: the records of all sources, merged by their keys."""

from totalround.errors import NoOrder, NoRecord, NoSource
from totalround.shapes import are_unlike
from totalround.sources import cut_by, have_fields_alike, is_source, key_in

MOST_SOURCES = 4


def all_shapes(sources):
    """The shapes of all these sources, in order."""
    return [shape for source in sources for shape in source.shapes]


def all_fields(shapes):
    """The fields of all these shapes, in order."""
    return [field for shape in shapes for field in shape.fields]


def key_kinds(source):
    """The length and kind of each of the source's keys, in order."""
    kinds = {field[0]: (field[2], field[3]) for field in all_fields(source.shapes)}
    return [kinds[key] for key in source.by]


def have_keys_alike(sources):
    """Whether those with keys have as many, of the same lengths and kinds in order."""
    keyed = [key_kinds(source) for source in sources if source.by != ()]
    return all([kinds == keyed[0] for kinds in keyed])


def is_sources(thing):
    """Whether these are sources that can be read in one order."""
    if not isinstance(thing, tuple) or not 1 <= len(thing) <= MOST_SOURCES:
        return False
    if not all([is_source(source) for source in thing]):
        return False
    if not are_unlike([source.name for source in thing]):
        return False
    return have_fields_alike(all_shapes(thing)) and have_keys_alike(thing)


def refuse_no_sources(sources):
    """Refuse what is no sources."""
    if not is_sources(sources):
        raise NoSource("these are no sources")


def cut_row(source, record):
    """The record's shape's name and its worths; a refusal tells the source, too."""
    try:
        return cut_by(source, record)
    except NoRecord as error:
        raise NoRecord(f"{source.name}/{error.name}") from None


def read_row(source, record, last, at):
    """The shape's name, the worths and the rank of the source's record at this number, behind one of the last rank."""
    shape, worths = cut_row(source, record)
    key = key_in(source, worths)
    # A loose one has (), less than every key, so that of the next records a loose one is the least.
    rank = () if key is None else key
    if rank != () and rank < last:
        raise NoOrder(source.name, at)
    return shape, worths, rank


def read_rows(source, records):
    """What read_row tells of each of the source's records."""
    told = []
    last = ()
    for at, record in enumerate(records):
        row = read_row(source, record, last, at)
        told.append(row)
        last = row[2] or last
    return told


def matching_keys(sources, ranks):
    """The keys that each source with keys has, none where fewer than two have keys."""
    keyed = [queue for source, queue in zip(sources, ranks) if source.by != ()]
    if len(keyed) < 2:
        return {}
    found = {rank: True for rank in keyed[0] if rank != ()}
    for queue in keyed[1:]:
        here = {rank: True for rank in queue}
        found = {rank: True for rank in found if rank in here}
    return found


def turns(ranks):
    """The pairs of a source's number and a row's number, in the order of reading."""
    told = []
    ahead = [0] * len(ranks)
    for _ in range(sum([len(queue) for queue in ranks])):
        # The source's number stands behind the rank, so of like ranks the first source's is the least.
        nexts = [(queue[ahead[k]], k) for k, queue in enumerate(ranks) if ahead[k] < len(queue)]
        least = min(nexts)[1]
        told.append((least, ahead[least]))
        ahead[least] += 1
    return told


def readings(sources, rows):
    """What ordered tells of each record, with its worths behind it."""
    refuse_no_sources(sources)
    # Each row is looked at by itself ahead of the next one, so that the first at fault is refused.
    queues = [read_rows(source, rows.get(source.name, [])) for source in sources]
    ranks = [[rank for _, _, rank in queue] for queue in queues]
    matching = matching_keys(sources, ranks)
    told = []
    for which, at in turns(ranks):
        shape, worths, rank = queues[which][at]
        told.append((sources[which].name, at, shape, rank in matching, worths))
    return told


def ordered(sources, rows):
    """(source's name, row's number, shape's name, matches) of all records, in the order of reading."""
    return [reading[:4] for reading in readings(sources, rows)]
