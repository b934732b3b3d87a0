"""What the tests hand in: fields, records, and things of all kinds where something else belongs."""


class Agreeable:
    """Equal to everything, so that a check by == alone lets it by."""

    def __eq__(self, other):
        return True

    def __hash__(self):
        return 0


ODD = (
    None, True, False, 0, 1, -1, 7, 60, 1.0, "", "a", "text", "number", "A", "\u00e9", "a\n",
    b"", b"a", b"a" * 60, [], ["a"], (), ("a",), (1,), {}, {"a": 1}, set(), frozenset({"a"}),
    object(), Agreeable(), int, len, range(3),
)


def odd_but(*kinds):
    """The odd things that are of none of these kinds."""
    return [thing for thing in ODD if not isinstance(thing, kinds)]


def text(name, column, length=2):
    """A text field."""
    return (name, column, length, "text")


def number(name, column, length=3):
    """A number field."""
    return (name, column, length, "number")


def wide(signs):
    """The record that begins with these signs."""
    return signs.ljust(60)
