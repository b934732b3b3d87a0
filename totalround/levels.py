"""Levels: what breaks from one record to the next."""

from totalround.merging import readings


def has_levels(levels, names):
    """Whether each level is one of these names."""
    return all([level in names for level in levels])


def is_levelled(levels, names):
    """Whether a shape is levelled that has fields of these names."""
    return levels != () and has_levels(levels, names)


def breaks(levels, ahead, now):
    """The number of the highest level that breaks between these worths, 0 of none."""
    if not has_levels(levels, now):
        return 0
    if ahead is None:
        return len(levels)
    changed = [k for k, level in enumerate(levels, start=1) if ahead.get(level) != now[level]]
    return max(changed, default=0)


def heights(told, levels):
    """What breaks tells of each of these readings."""
    found = []
    ahead = None
    for reading in told:
        now = reading[4]
        found.append(breaks(levels, ahead, now))
        if has_levels(levels, now):
            ahead = now
    return found


def broken(sources, rows, levels):
    """What breaks tells of each record, in the order of reading."""
    return heights(readings(sources, rows), levels)
