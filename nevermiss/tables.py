"""Tables: names with texts, the weights of two texts, near names, and what a rule finds and misses."""

from nevermiss.asked import MOST_BOUND, check_signs, check_text, check_whole
from nevermiss.basics import is_key
from nevermiss.errors import BadName, TooMany
from nevermiss.grid import Grid
from nevermiss.judging import are_low, paired_numbers
from nevermiss.ways import way_back

LONGEST_TEXT = 30
MOST_ROWS = 24


def weight_of(edits, x, y):
    """The least weight of a row of columns that tells x and y, None if there is none."""
    check_texts(edits, x, y)
    return Grid(edits, x, y).weight_within(None)


def columns_of(edits, x, y):
    """A row of columns of the least weight that tells x and y, None if there is none."""
    check_texts(edits, x, y)
    grid = Grid(edits, x, y)
    steps = grid.ways_within(None)[1]
    if grid.last not in steps:
        return None
    return tuple([grid.columns[column] for column in way_back(steps, grid.last)[::-1]])


def bar_of(edits, x, y, k):
    """A right bar: a paper that the weight of x and y is above k; None if it is not."""
    check_texts(edits, x, y)
    check_whole(k, MOST_BOUND)
    grid = Grid(edits, x, y)
    weights = grid.ways_within(k)[0]
    if grid.last in weights:
        return None
    return {divmod(place, grid.width): weights[place] for place in sorted(weights)}


def is_bar(edits, x, y, k, places):
    """Whether a dict from places to numbers is a right bar."""
    check_texts(edits, x, y)
    check_whole(k, MOST_BOUND)
    numbers = paired_numbers(places, len(x) + 1, len(y) + 1)
    return numbers is not None and are_low(Grid(edits, x, y), numbers, k)


class Table:
    """Different names, each with a text."""

    def __init__(self, signs, rows):
        check_rows(signs, rows)
        self.signs = signs
        self.rows = {name: rows[name] for name in sorted(rows)}
        # The methods read this one: who changes the dict that is told does not change the table.
        self._texts = {name: rows[name] for name in sorted(rows)}

    def __getitem__(self, at):
        if at not in self._texts:
            raise BadName(at)
        return self._texts[at]

    def __contains__(self, x):
        return x in self._texts

    def __iter__(self):
        raise TypeError("a table is not iterated over")

    def __len__(self):
        return len(self._texts)

    def __eq__(self, other):
        if not isinstance(other, Table):
            return False
        return sorted(self.signs) == sorted(other.signs) and self._texts == other._texts

    def named(self):
        """The pairs (name, text), ascending by name."""
        return [(name, self._texts[name]) for name in self._texts]

    def near(self, edits, k):
        """The triples (a, b, weight) of two different names whose texts are near within k."""
        check_signs(self, edits)
        check_whole(k, MOST_BOUND)
        return tuple([(a, b, weight) for a, b, weight in self.weighed(edits, k) if weight is not None])

    def near_text(self, edits, k, text):
        """The pairs (weight, name) of the names to whose texts a text is near within k."""
        check_signs(self, edits)
        check_whole(k, MOST_BOUND)
        check_text(self.signs, text)
        weights = [(Grid(edits, own, text).weight_within(k), name) for name, own in self.named()]
        return tuple(sorted([(weight, name) for weight, name in weights if weight is not None]))

    def found(self, rule, text):
        """The names whose texts meet a text."""
        check_signs(self, rule)
        check_text(self.signs, text)
        return tuple([name for name, own in self.named() if rule.meets(own, text)])

    def shelf(self, rule):
        """A dict from the keys that texts of the table have by the left machine to the names that have them."""
        check_signs(self, rule)
        keys = {name: rule.left.keys_of(own) for name, own in self.named()}
        return {key: tuple([name for name in keys if key in keys[name]])
                for key in rule.left.all_keys if any([key in keys[name] for name in keys])}

    def missed(self, rule, edits, k):
        """The triples of near names whose texts miss one another."""
        check_signs(self, rule)
        near = self.near(edits, k)
        return tuple([(a, b, weight) for a, b, weight in near if not rule.meets(self._texts[a], self._texts[b])])

    def idle(self, rule, edits, k):
        """The pairs of different names whose texts meet, but are not near."""
        check_signs(self, rule)
        check_signs(self, edits)
        check_whole(k, MOST_BOUND)
        far = [(a, b) for a, b, weight in self.weighed(edits, k) if weight is None]
        return tuple([(a, b) for a, b in far if rule.meets(self._texts[a], self._texts[b])])

    def weighed(self, edits, k):
        """The triples (a, b, weight) of two different names; the weight is None if it is above k or there is none."""
        return [(a, b, Grid(edits, x, y).weight_within(k)) for a, x in self.named() for b, y in self.named() if a != b]


def check_texts(edits, x, y):
    """Raises BadSign for the first letter of x, then of y, that is no sign."""
    check_text(edits.signs, x)
    check_text(edits.signs, y)


def check_rows(signs, rows):
    """Raises what is due for the rows of a table."""
    for name in sorted(rows):
        if not is_key(name):
            raise BadName(name)
    for name in sorted(rows):
        check_text(signs, rows[name])
    if any([len(text) > LONGEST_TEXT for text in rows.values()]):
        raise TooMany("signs")
    if len(rows) > MOST_ROWS:
        raise TooMany("rows")
