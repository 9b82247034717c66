"""The errors of the package: each has its fields as attributes."""


class MissError(ValueError):
    """Above all errors of the package."""


class BadText(MissError):
    """A line of a machine's text is wrong; lines count from 1."""

    def __init__(self, line):
        self.line = copied(line)


class BadMachine(MissError):
    """A way of a machine leads to a state that is none."""

    def __init__(self, state, place):
        self.state = copied(state)
        self.place = copied(place)


class BadSign(MissError):
    """A letter of a text is no sign."""

    def __init__(self, place):
        self.place = copied(place)


class BadEdit(MissError):
    """An edit is none, or stands ahead already."""

    def __init__(self, index):
        self.index = copied(index)


class BadColumn(MissError):
    """A column is none."""

    def __init__(self, index):
        self.index = copied(index)


class BadBound(MissError):
    """A bound or a weight is none."""

    def __init__(self, bound):
        self.bound = copied(bound)


class BadKeys(MissError):
    """A key is none of the rule, or stands ahead already."""

    def __init__(self, key):
        self.key = copied(key)


class BadName(MissError):
    """A name is none, is taken already, or is not there."""

    def __init__(self, name):
        self.name = copied(name)


class TooMany(MissError):
    """There are too many of something."""

    def __init__(self, what):
        self.what = copied(what)


class Unlike(MissError):
    """Things that have to do with one another have not the same signs."""


class Misses(MissError):
    """Near texts miss one another: a row of columns tells two of them."""

    def __init__(self, columns):
        row = copied(columns)
        # Rows of columns are told as tuples, also where a list is passed.
        self.columns = tuple(row) if isinstance(row, list) else row


class NothingLeft(MissError):
    """There is no deed that can be taken back."""


def copied(field):
    """A field that its caller cannot change any more."""
    if isinstance(field, list):
        return [copied(part) for part in field]
    if isinstance(field, tuple):
        return tuple([copied(part) for part in field])
    if isinstance(field, dict):
        return {key: copied(field[key]) for key in field}
    return field
