"""Edits: which words become which others, and at what weight; rows of columns tell pairs of texts."""

from nevermiss.basics import is_natural
from nevermiss.errors import BadBound, BadColumn, BadEdit, TooMany

MOST_EDITS = 24
LONGEST_SIDE = 3
MOST_WEIGHT = 10 ** 30


class Edits:
    """Rows (u, v, weight): u of the first text becomes v of the second one."""

    def __init__(self, signs, rows):
        if len(rows) > MOST_EDITS:
            raise TooMany("edits")
        check_rows(signs, rows)
        self.signs = signs
        self.rows = tuple([(u, v, weight) for u, v, weight in rows])

    @classmethod
    def plain(cls, signs, put_in, take_out, put):
        """The edits that put in, take out and exchange single signs."""
        for weight in (put_in, take_out, put):
            if not is_weight(weight):
                raise BadBound(weight)
        rows = [("", a, put_in) for a in signs]
        rows.extend([(a, "", take_out) for a in signs])
        rows.extend([(a, b, put) for a in signs for b in signs if a != b])
        return cls(signs, rows)

    def __eq__(self, other):
        return isinstance(other, Edits) and self.signs == other.signs and self.rows == other.rows

    def turned(self):
        """The edits from the second text to the first one."""
        return Edits(self.signs, [(v, u, weight) for u, v, weight in self.rows])

    def texts(self, columns):
        """The two texts that a row of columns tells."""
        sides = [self.side(column) for column in self.checked(columns)]
        return "".join([side[0] for side in sides]), "".join([side[1] for side in sides])

    def weighed(self, columns):
        """The weight of a row of columns."""
        return sum([self.side(column)[2] for column in self.checked(columns)])

    def side(self, column):
        """What a column has on its first side and on its second one, and its weight."""
        if isinstance(column, str):
            return column, column, 0
        return self.rows[column]

    def all_columns(self):
        """All columns that there are: the signs, then the indexes of the edits."""
        return (*self.signs, *list(range(len(self.rows))))

    def checked(self, columns):
        """A row of columns as a tuple; raises BadColumn for the first element that is no column."""
        for index, column in enumerate(columns):
            if not self.has_column(column):
                raise BadColumn(index)
        return tuple(columns)

    def has_column(self, column):
        """Whether something is a column."""
        if isinstance(column, str):
            # "in" alone would take the empty word and words of several signs.
            return len(column) == 1 and column in self.signs
        return is_natural(column) and column < len(self.rows)


def check_rows(signs, rows):
    """Raises BadEdit for the first row that is no edit or stands ahead already."""
    ahead = {}
    for index, row in enumerate(rows):
        if not is_edit(signs, row) or (row[0], row[1]) in ahead:
            raise BadEdit(index)
        ahead[(row[0], row[1])] = True


def is_edit(signs, row):
    """Whether something is a triple of two unlike short texts and a weight."""
    if not isinstance(row, (tuple, list)) or len(row) != 3:
        return False
    return is_side(signs, row[0]) and is_side(signs, row[1]) and row[0] != row[1] and is_weight(row[2])


def is_side(signs, word):
    """Whether something is a text that an edit can have on a side."""
    return isinstance(word, str) and len(word) <= LONGEST_SIDE and all([letter in signs for letter in word])


def is_weight(value):
    """Whether something is the weight of an edit."""
    return is_natural(value) and value <= MOST_WEIGHT
