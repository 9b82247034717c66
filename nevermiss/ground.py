"""A rule and edits in numbers: where columns lead, and what both texts get on the way."""


class Ground:
    """What columns do from each pair of states on.

    A pair is the number of a state of the left machine and one of the right machine. Sets of keys of the rule are told
    by bits, the lowest one for the first key.
    """

    def __init__(self, rule, edits):
        self.rule = rule
        self.edits = edits
        self.all_keys = rule.all_keys
        self.every = (1 << len(rule.all_keys)) - 1
        self.columns = edits.all_columns()
        self.many_left = len(rule.left.rows)
        self.many_right = len(rule.right.rows)
        self.sides = [edits.side(column) for column in self.columns]
        self.left = self.readings(rule.left, [side[0] for side in self.sides])
        self.right = self.readings(rule.right, [side[1] for side in self.sides])
        self.left_ends = [self.bits(end) for end in rule.left.ends]
        self.right_ends = [self.bits(end) for end in rule.right.ends]
        self._steps = {}

    def readings(self, machine, words):
        """For each state and each word the state behind, and the keys that are given on the way."""
        rows = []
        for state in range(len(machine.rows)):
            walks = [machine.walk(state, word) for word in words]
            rows.append([(to, self.bits(keys)) for to, keys in walks])
        return rows

    def bits(self, keys):
        """Some keys as bits."""
        return sum([1 << at for at, key in enumerate(self.all_keys) if key in keys])

    def named(self, bits):
        """The keys that bits tell, ascending."""
        return tuple([self.all_keys[at] for at in self.indexes(bits)])

    def by_keys(self, papers):
        """The pairs (keys, paper) of a dict from sets of keys as bits, ascending by keys."""
        named = {self.named(bits): papers[bits] for bits in papers}
        return [(keys, named[keys]) for keys in sorted(named)]

    def indexes(self, bits):
        """The indexes of the keys that the lowest bits tell."""
        return [at for at in range(len(self.all_keys)) if bits >> at & 1]

    def shared(self, columns):
        """The keys that the texts told by a row of columns share, as bits."""
        x, y = self.edits.texts(columns)
        return self.bits(self.rule.shared(x, y))

    def is_near(self, columns, k):
        """Whether a row of columns weighs no more than a bound."""
        return k is None or self.edits.weighed(columns) <= k

    def steps(self, pair):
        """For each column (to, x, y, weight, signs, column) from a pair on.

        These are the pair behind it, what the first text and the second one get on the way, the weight, the number of
        signs on the first side, and the index in columns.
        """
        if pair not in self._steps:
            left, right = divmod(pair, self.many_right)
            steps = []
            for column, (u, _, weight) in enumerate(self.sides):
                p, x = self.left[left][column]
                q, y = self.right[right][column]
                steps.append((p * self.many_right + q, x, y, weight, len(u), column))
            self._steps[pair] = steps
        return self._steps[pair]

    def in_columns(self, row):
        """A row of indexes of columns as a row of columns."""
        return tuple([self.columns[column] for column in row])
