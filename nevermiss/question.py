"""What is asked of all texts: which keys are given and which are wanted, in numbers."""

from nevermiss.basics import is_natural


class Question:
    """Given keys and wanted ones on a ground.

    A place is a pair of states with flags, which are its lowest bits: two for each given key, as in a node. An event is
    that a text gets a wanted key: the lower half of the events' bits is the first text's, the upper half the second
    text's. What is barred at a leaf is told by these bits, too: that a key is the first text's alone bars that the
    second text gets it.
    """

    def __init__(self, ground, given, wanted):
        self.ground = ground
        self.given = [ground.all_keys.index(key) for key in given]
        self.wanted = ground.bits(wanted)
        self.upper = len(ground.all_keys)
        self.flag_bits = 2 * len(given)
        self.all_flags = (1 << self.flag_bits) - 1
        self._moves = {}

    def open_index(self, barred, key):
        """The index of a wanted key that is not divided yet where this is barred, None if it is none."""
        if key not in self.ground.all_keys:
            return None
        at = self.ground.all_keys.index(key)
        return at if self.wanted >> at & 1 and at not in self.divided(barred) else None

    def divided(self, barred):
        """The indexes of the wanted keys that are divided where this is barred."""
        return self.ground.indexes(barred | barred >> self.upper)

    def bar_second(self, barred, at):
        """What is barred where a wanted key is the first text's alone, too."""
        return barred | 1 << (self.upper + at)

    def bar_first(self, barred, at):
        """What is barred where a wanted key is the second text's alone, too."""
        return barred | 1 << at

    def moves(self, pair):
        """The ways from a pair on, but those that are barred at each leaf.

        Each is told as (to, events, weight, signs, column): the place behind it, with the flags that come on the way,
        the events on the way, the weight, the number of signs on the first side, and the index in columns.
        """
        if pair not in self._moves:
            self._moves[pair] = [(to << self.flag_bits | self.flags(x, y), self.events(x, y), weight, signs, column)
                                 for to, x, y, weight, signs, column in self.ground.steps(pair)
                                 if x & y & self.wanted == 0]
        return self._moves[pair]

    def events(self, x, y):
        """The events where the first text gets some keys and the second one others."""
        return x & self.wanted | (y & self.wanted) << self.upper

    def flags(self, x, y):
        """The flags of the given keys that the first text and the second one get."""
        flags = 0
        for place, at in enumerate(self.given):
            flags = flags | (x >> at & 1 | (y >> at & 1) << 1) << (2 * place)
        return flags

    def lacking(self, pair, barred):
        """The flags that have to be there already for a full end at a pair, None if its end is barred."""
        left, right = divmod(pair, self.ground.many_right)
        x, y = self.ground.left_ends[left], self.ground.right_ends[right]
        if x & y & self.wanted or self.events(x, y) & barred:
            return None
        return self.all_flags - self.flags(x, y)

    def sharing(self, row):
        """The indexes of the wanted keys that the texts told by a row share, those that they share first ahead."""
        left, right = 0, 0
        first, second = 0, 0
        shared = []
        for column in row:
            left, x = self.ground.left[left][column]
            right, y = self.ground.right[right][column]
            first = first | x
            second = second | y
            shared.extend([at for at in self.ground.indexes(first & second & self.wanted) if at not in shared])
        first = first | self.ground.left_ends[left]
        second = second | self.ground.right_ends[right]
        return [*shared, *[at for at in self.ground.indexes(first & second & self.wanted) if at not in shared]]

    def node(self, place):
        """The states and flags of a place, as a node begins."""
        left, right = divmod(place >> self.flag_bits, self.ground.many_right)
        return left, right, tuple([place >> at & 1 for at in range(self.flag_bits)])

    def place_of(self, p, q, flags):
        """The place that the begin of a node tells, None if there is none."""
        if not is_natural(p) or p >= self.ground.many_left or not is_natural(q) or q >= self.ground.many_right:
            return None
        if len(flags) != self.flag_bits or not all([is_natural(flag) and flag < 2 for flag in flags]):
            return None
        pair = p * self.ground.many_right + q
        return (pair << self.flag_bits) + sum([flag << at for at, flag in enumerate(flags)])

    def heaviest(self):
        """A weight that no least way to a place exceeds, as it comes to each place once at the most."""
        pairs = self.ground.many_left * self.ground.many_right
        return (pairs << self.flag_bits) * max([side[2] for side in self.ground.sides])
