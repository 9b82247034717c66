"""The desk: a table, a rule, edits and a bound that are exchanged only if no near texts miss one another."""

from nevermiss.asked import MOST_BOUND, asked, check_signs, check_whole
from nevermiss.errors import BadName, Misses, NothingLeft
from nevermiss.lightways import lightest_row
from nevermiss.tables import Table


class Desk:
    """What is held, and what was held ahead of each deed that can be taken back."""

    def __init__(self, table, rule, edits, k):
        check_signs(table, rule)
        check_signs(table, edits)
        check_whole(k, MOST_BOUND)
        check_misses(rule, edits, k)
        self._table = Table(table.signs, dict(table.named()))
        self.rule = rule
        self.edits = edits
        self.bound = k
        self._past = []

    def __len__(self):
        return len(self._past)

    @property
    def table(self):
        """The table that is held, as a new one: its dict is for whom it is told."""
        return Table(self._table.signs, self._table.rows)

    def ask(self, text):
        """The pairs (weight, name) of the names to whose texts a text is near."""
        return self._table.near_text(self.edits, self.bound, text)

    def tried(self, text):
        """How many names are found for a text."""
        return len(self._table.found(self.rule, text))

    def put(self, name, text):
        """Adds a row to the table."""
        if name in self._table:
            raise BadName(name)
        # What else may be wrong with the row is seen by the new table.
        rows = dict(self._table.named())
        rows[name] = text
        self.hold(Table(self._table.signs, rows), self.rule, self.edits, self.bound)

    def take(self, name):
        """Takes a row out of the table."""
        if name not in self._table:
            raise BadName(name)
        rows = dict(self._table.named())
        del rows[name]
        self.hold(Table(self._table.signs, rows), self.rule, self.edits, self.bound)

    def exchange(self, rule):
        """Takes another rule."""
        check_signs(self._table, rule)
        check_misses(rule, self.edits, self.bound)
        self.hold(self._table, rule, self.edits, self.bound)

    def reprice(self, edits):
        """Takes other edits."""
        check_signs(self._table, edits)
        check_misses(self.rule, edits, self.bound)
        self.hold(self._table, self.rule, edits, self.bound)

    def widen(self, k):
        """Takes another bound."""
        check_whole(k, MOST_BOUND)
        check_misses(self.rule, self.edits, k)
        self.hold(self._table, self.rule, self.edits, k)

    def undo(self):
        """Takes back the last deed that is not taken back yet."""
        if not self._past:
            raise NothingLeft()
        self._table, self.rule, self.edits, self.bound = self._past.pop()

    def attempt(self, action):
        """Calls a function with the desk; if it raises an error, the desk is as it was before."""
        table, rule, edits, bound = self._table, self.rule, self.edits, self.bound
        past = list(self._past)
        done = None
        # Not each error that an action raises can be named here.
        try:
            result = action(self)
            done = True
        finally:
            if done is None:
                self._table, self.rule, self.edits, self.bound = table, rule, edits, bound
                self._past = past
        return result

    def hold(self, table, rule, edits, bound):
        """Does a deed: holds these things from now on."""
        self._past.append((self._table, self.rule, self.edits, self.bound))
        self._table, self.rule, self.edits, self.bound = table, rule, edits, bound


def check_misses(rule, edits, k):
    """Raises Misses, with a row of the least weight, if near texts miss one another within k."""
    columns = lightest_row(asked(rule, edits, (), None), k)
    if columns is not None:
        raise Misses(columns)
