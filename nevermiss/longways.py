"""Long ways: how many signs the first text can have on a way to a full end within a bound."""

from nevermiss.dividing import Leaf, first_bad, told_tree
from nevermiss.survey import Survey


def longest_bad(question, k):
    """The leaf with the longest bad row, None if there is none, and the leaf in which the division began."""

    def look_on(barred):
        return look_far(question, barred, k)

    def longest_way(leaf):
        if leaf.worth is None:
            return 0, 0, len(leaf.common)
        return 1, -leaf.worth, len(leaf.common)

    root = look_on(0)
    return first_bad(question, root, look_on, longest_way), root


def far_tree(question, root, k, many):
    """The tree of the leaves behind a root, without the divisions that many does not need."""

    def is_done(leaf):
        return leaf.one is None or (leaf.worth is not None and many is not None and leaf.worth <= many)

    def nodes(leaf):
        return far_nodes(question, leaf.barred, k)

    return told_tree(question, root, is_done, nodes)


def look_far(question, barred, k):
    """A leaf with its longest way to a full end within k; its worth is the length.

    If there is no longest one, the worth is None, and what is seen are three rows: a head, a ring and a tail.
    """
    survey = Survey(question, barred, k)
    if 0 not in survey.live:
        return Leaf(question, barred, None, None, None)
    rows = survey.endless_rows()
    if rows is not None:
        head, ring, tail = rows
        return Leaf(question, barred, [*head, *ring, *tail], None, rows)
    lengths = Lengths(survey, k)
    return Leaf(question, barred, lengths.longest_row(), lengths.rooms[(0, 0)], None)


def far_nodes(question, barred, k):
    """The nodes of a leaf without a ring, with the least rooms."""
    lengths = Lengths(Survey(question, barred, k), k)
    spots = sorted([(place, weight) for weight in range(k + 1) for place in lengths.layers[weight]])
    return tuple([(*question.node(place), weight, lengths.rooms.get((place, weight))) for place, weight in spots])


class Lengths:
    """How long ways to full ends can be at a leaf without a ring.

    layers tells the places that are come to at just each weight; rooms has, for live places and weights so far, the
    greatest number of signs on the first side from there on; exits has, for each part and weight so far, the place from
    which such a way leaves the part, and the step by which it does, None at its end.
    """

    def __init__(self, survey, k):
        self.survey = survey
        self.layers = exact_layers(survey.ways, k)
        self.rooms = {}
        self.exits = {}
        for less in range(k + 1):
            weight = k - less
            for at, part in enumerate(survey.parts):
                if part[0] in self.layers[weight] and survey.is_live(part[0], weight):
                    self.measure(at, weight)

    def measure(self, at, weight):
        """Works out the room of a part at a weight so far; those of all that its ways lead to are there already."""
        best = None
        part = self.survey.parts[at]
        for place in part:
            if best is None and self.survey.ways.is_end(place):
                best = 0
                self.exits[(at, weight)] = (place, None)
            for step in self.survey.live[place]:
                rest = self.rooms.get((step[0], weight + step[1]))
                if rest is not None and (best is None or step[2] + rest > best):
                    best = step[2] + rest
                    self.exits[(at, weight)] = (place, step)
        for place in part:
            self.rooms[(place, weight)] = best

    def longest_row(self):
        """A row of the longest way from the first place on."""
        row = []
        place, weight = 0, 0
        while place is not None:
            last, step = self.exits[(self.survey.part_of[place], weight)]
            row.extend(self.survey.inside(place, last))
            place = None
            if step is not None:
                place, more, _, column = step
                weight += more
                row.append(column)
        return row


def exact_layers(ways, k):
    """For each weight from 0 to k a dict with the places that are come to at just this weight."""
    layers = [{} for _ in range(k + 1)]
    layers[0][0] = True
    for weight in range(k + 1):
        todo = list(layers[weight])
        while todo:
            place = todo.pop()
            for to, more, _, _ in ways.ahead(place):
                if weight + more <= k and to not in layers[weight + more]:
                    layers[weight + more][to] = True
                    if more == 0:
                        todo.append(to)
    return layers
