"""Two texts: their places, and the columns that fit there."""

from nevermiss.basics import standing


class Grid:
    """The places of two texts, and the columns that fit there.

    The place (i, j) is told by the number i * width + j. So each column leads to a place with a greater number.
    """

    def __init__(self, edits, x, y):
        self.columns = edits.all_columns()
        self.sides = [edits.side(column) for column in self.columns]
        self.width = len(y) + 1
        self.last = (len(x) + 1) * self.width - 1
        self.first = standing(x, [side[0] for side in self.sides])
        self.second = standing(y, [side[1] for side in self.sides])
        self._moves = {}

    def is_end(self, place):
        """Whether both texts are done at a place."""
        return place == self.last

    def ahead(self, place):
        """The ways (to, weight, signs, column) from a place on."""
        i, j = divmod(place, self.width)
        fitting = self.first[i] & self.second[j]
        if fitting not in self._moves:
            self._moves[fitting] = self.moves(fitting)
        return [(place + more, weight, signs, column) for more, weight, signs, column in self._moves[fitting]]

    def moves(self, fitting):
        """As ahead, for the columns that are told by bits; more is how far the place behind is."""
        return [(len(u) * self.width + len(v), weight, len(u), column)
                for column, (u, v, weight) in enumerate(self.sides) if fitting >> column & 1]

    def ways_within(self, limit):
        """Two dicts from the places within a limit, None for no limit: the least weights and the last steps."""
        weights = {0: 0}
        steps = {0: None}
        for place in range(self.last + 1):
            if place in weights:
                for to, more, _, column in self.ahead(place):
                    weight = weights[place] + more
                    if (limit is None or weight <= limit) and (to not in weights or weight < weights[to]):
                        weights[to] = weight
                        steps[to] = (place, column)
        return weights, steps

    def weight_within(self, limit):
        """The weight of the two texts, None if it is above a limit or there is none."""
        return self.ways_within(limit)[0].get(self.last)
