"""Machines that read a text sign by sign and give it keys."""

from nevermiss.basics import MOST_KEYS, is_whole, key_list
from nevermiss.errors import BadMachine, BadSign, TooMany
from nevermiss.machinetext import read_parts, state_line


class Machine:
    """States with ways for each sign; keys are given on the ways and at the end."""

    def __init__(self, signs, rows, ends):
        check_ways(rows)
        self.signs = signs
        self.rows = tuple([tuple([(to, key_list(given)) for to, given in row]) for row in rows])
        self.ends = tuple([key_list(end) for end in ends])
        self.all_keys = keys_in(self.rows, self.ends)
        if len(self.all_keys) > MOST_KEYS:
            raise TooMany("keys")
        self._ways = tuple([{sign: way for sign, way in zip(signs, row)} for row in self.rows])

    @classmethod
    def read(cls, text):
        """The machine that a text of a machine tells."""
        signs, rows, ends = read_parts(text)
        return cls(signs, rows, ends)

    def __str__(self):
        lines = [state_line(row, end) for row, end in zip(self.rows, self.ends)]
        return "\n".join([f"signs {self.signs}", *lines])

    def __eq__(self, other):
        return (isinstance(other, Machine) and self.signs == other.signs
                and self.rows == other.rows and self.ends == other.ends)

    def walk(self, state, text):
        """The state behind a text that is read from a state on, and the keys that are given on the way."""
        got = {}
        for place, letter in enumerate(text):
            way = self._ways[state].get(letter)
            if way is None:
                raise BadSign(place)
            state, given = way
            for key in given:
                got[key] = True
        return state, key_list(list(got))

    def keys_of(self, text):
        """The keys of a text."""
        state, given = self.walk(0, text)
        return key_list([*given, *self.ends[state]])

    def after(self, text):
        """The state that a text comes to."""
        return self.walk(0, text)[0]

    def far_keys(self, blocks):
        """The keys of a text that is told by blocks."""
        state = 0
        got = []
        for word, times in blocks:
            state, given = self.walk_often(state, word, times)
            got.extend(given)
        return key_list([*got, *self.ends[state]])

    def walk_often(self, state, word, times):
        """As walk, for a text in which a word stands many times."""
        passed = {}
        got = []
        while len(passed) < times and state not in passed:
            passed[state] = len(passed)
            state, given = self.walk(state, word)
            got.extend(given)
        if len(passed) < times:
            # From a state on that was passed before, the same states come round again and give no other keys.
            first = passed[state]
            ring = len(passed) - first
            state = list(passed)[first + (times - first) % ring]
        return state, key_list(got)


def check_ways(rows):
    """Raises BadMachine for the first way whose next state is none."""
    for state, row in enumerate(rows):
        for place, way in enumerate(row):
            if not is_whole(way[0]) or way[0] < 0 or way[0] >= len(rows):
                raise BadMachine(state, place)


def keys_in(rows, ends):
    """All keys that stand on ways and at ends."""
    on_ways = [key for row in rows for way in row for key in way[1]]
    return key_list([*on_ways, *[key for end in ends for key in end]])
