"""One text: the spots of its near ones, and the columns that fit there."""

from nevermiss.basics import standing


class Spots:
    """The spots of a text, and the columns that fit there.

    The spot (i, q) is told by the number i * many_right + q. Sets of keys are told by bits, as the ground tells them.
    """

    def __init__(self, ground, text):
        self.ground = ground
        self.many_right = ground.many_right
        self.own = ground.bits(ground.rule.left.keys_of(text))
        self.first = standing(text, [side[0] for side in ground.sides])
        self._moves = {}

    def moves(self, spot):
        """The ways (to, given, weight, signs, column) from a spot on; given are the keys that the near one gets."""
        if spot not in self._moves:
            i, q = divmod(spot, self.many_right)
            moves = []
            for column, (u, _, weight) in enumerate(self.ground.sides):
                if self.first[i] >> column & 1:
                    to, given = self.ground.right[q][column]
                    moves.append(((i + len(u)) * self.many_right + to, given, weight, len(u), column))
            self._moves[spot] = moves
        return self._moves[spot]

    def keys_of(self, row):
        """The keys of the near one that a row of indexes of columns tells."""
        columns = self.ground.in_columns(row)
        return self.ground.bits(self.ground.rule.right.keys_of(self.ground.edits.texts(columns)[1]))

    def heaviest(self):
        """A weight that no least way to a spot exceeds, as it comes to each spot once at the most."""
        return len(self.first) * self.many_right * max([side[2] for side in self.ground.sides])


class NearWays:
    """The ways to near ones that have none of some keys."""

    def __init__(self, spots, barred):
        self.spots = spots
        self.barred = barred

    def is_end(self, spot):
        """Whether a near one without these keys may end at a spot."""
        i, q = divmod(spot, self.spots.many_right)
        return i == len(self.spots.first) - 1 and self.spots.ground.right_ends[q] & self.barred == 0

    def ahead(self, spot):
        """The ways (to, weight, signs, column) from a spot on."""
        return [(to, weight, signs, column)
                for to, given, weight, signs, column in self.spots.moves(spot) if given & self.barred == 0]
