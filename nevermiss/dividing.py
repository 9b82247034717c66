"""Trees of cases: wanted keys are divided until no way to an end is left, or one that is bad is found."""

from heapq import heappop, heappush


class Leaf:
    """What there is where some wanted keys are divided and the others are open.

    row is a way to a full end, by indexes of columns, None if there is none; common are the open keys that its texts
    share. worth and seen are what they who looked at the leaf tell of that way and of the leaf.
    """

    def __init__(self, question, barred, row, worth, seen):
        self.barred = barred
        self.row = row
        self.common = [] if row is None else question.sharing(row)
        self.worth = worth
        self.seen = seen
        self.key = None
        self.one = None
        self.other = None

    def divide(self, question, look):
        """Divides the key that is shared first: the sooner something is barred, the less is left to look at."""
        self.key = self.common[0]
        self.one = look(question.bar_second(self.barred, self.key))
        self.other = look(question.bar_first(self.barred, self.key))
        self.seen = None


def first_bad(question, root, look, rank):
    """Divides leaves, those of the least rank first, until one has a bad row; None if no leaf has a way any more."""
    leaves = []
    queue = []
    new = [root]
    while True:
        for leaf in new:
            if leaf.row is not None:
                heappush(queue, (rank(leaf), len(leaves)))
                leaves.append(leaf)
        if not queue:
            return None
        best = leaves[heappop(queue)[1]]
        if not best.common:
            return best
        best.divide(question, look)
        new = [best.one, best.other]


def told_tree(question, leaf, is_done, nodes):
    """The tree from a leaf on; is_done tells where no division is due, nodes the nodes there."""
    if is_done(leaf):
        return "leaf", nodes(leaf)
    one = told_tree(question, leaf.one, is_done, nodes)
    return question.ground.all_keys[leaf.key], one, told_tree(question, leaf.other, is_done, nodes)
