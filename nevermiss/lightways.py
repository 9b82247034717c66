"""Light ways: the least weights with which places can be come to, and the lightest way to an end."""

from heapq import heappop, heappush

from nevermiss.dividing import Leaf, first_bad, told_tree
from nevermiss.ways import Ways, way_back


def bad_or_tree(question, limit):
    """A bad row within the limit and None, or None and a right tree."""

    def look_on(barred):
        return look(question, barred, limit)

    def deepest(leaf):
        # Any bad row will do: nearly divided leaves tell one sooner, and such whose texts share few keys.
        return -len(question.divided(leaf.barred)), len(leaf.common)

    root = look_on(0)
    bad = first_bad(question, root, look_on, deepest)
    if bad is not None:
        return question.ground.in_columns(bad.row), None
    return None, light_tree(question, root, limit)


def least_bad(question):
    """The least weight of a bad row, such a row, and a right tree for the bound below; None where there is none."""
    most = question.heaviest()

    def look_on(barred):
        return look(question, barred, most)

    def lightest_way(leaf):
        return leaf.worth, len(leaf.common)

    root = look_on(0)
    bad = first_bad(question, root, look_on, lightest_way)
    if bad is None:
        return None, None, light_tree(question, root, most)
    tree = None if bad.worth == 0 else light_tree(question, root, bad.worth - 1)
    return bad.worth, question.ground.in_columns(bad.row), tree


def light_tree(question, root, limit):
    """The tree of the leaves behind a root, without the divisions and nodes that the limit does not need."""

    def is_done(leaf):
        return leaf.one is None or (limit is not None and leaf.worth > limit)

    def nodes(leaf):
        numbers = leaf.seen if leaf.one is None else look(question, leaf.barred, limit).seen
        places = [place for place in sorted(numbers) if limit is None or numbers[place] <= limit]
        return tuple([(*question.node(place), numbers[place]) for place in places])

    return told_tree(question, root, is_done, nodes)


def look(question, barred, limit):
    """A leaf with its lightest way to a full end within the limit; its worth is the weight of that way.

    What is seen are the numbers of the places that are come to ahead of that end: of all, if there is none. Without a
    limit weights do not matter, and all numbers are 0.
    """
    spread = Spread(Ways(question, barred), limit)
    while spread.layer:
        end = spread.grow()
        if end is not None:
            return Leaf(question, barred, way_back(spread.came, end)[::-1], spread.number, spread.numbers)
        spread.go_on()
    return Leaf(question, barred, None, None, spread.numbers)


class Spread:
    """The places that are come to from the first one on, in layers of equal numbers."""

    def __init__(self, ways, limit):
        self.ways = ways
        self.limit = limit
        self.numbers = {0: 0}
        self.came = {0: None}
        self.layer = [0]
        self.number = 0
        self.queue = []

    def grow(self):
        """Adds to the layer what ways without a weight come to; stops at a full end and tells it."""
        numbers, number, limit = self.numbers, self.number, self.limit
        at = 0
        while at < len(self.layer):
            place = self.layer[at]
            if self.ways.is_end(place):
                return place
            for to, weight, _, column in self.ways.ahead(place):
                if to not in numbers:
                    if weight == 0 or limit is None:
                        self.take(to, place, column)
                    elif number + weight <= limit:
                        heappush(self.queue, (number + weight, to, place, column))
            at += 1
        return None

    def go_on(self):
        """Begins the next layer, with the next place that is new; there is none behind the limit."""
        self.layer = []
        while self.queue and not self.layer:
            number, to, place, column = heappop(self.queue)
            if to not in self.numbers:
                self.number = number
                self.take(to, place, column)

    def take(self, to, place, column):
        """Takes a new place into the layer, that is come to from another place by a column."""
        self.numbers[to] = self.number
        self.came[to] = (place, column)
        self.layer.append(to)
