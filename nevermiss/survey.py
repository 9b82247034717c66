"""What there is at a leaf for ways within a bound from 0 on: light ways, rings, and parts of live places."""

from nevermiss.parting import strong_parts
from nevermiss.ways import Ways, way_back


class Survey:
    """The places of a leaf within k, and which of them are live: on a way to a full end within k.

    begins and ends are the least weights of ways from the first place and to a full end, came and goes are the last and
    the first step of such ways. live has the ways (to, weight, signs, column) among live places. Live places of one
    part can be come to from one another without a weight; no such way leads to a part behind.
    """

    def __init__(self, question, barred, k):
        self.ways = Ways(question, barred)
        self.k = k
        self.begins, self.came = least_weights([0], self.ways.ahead, k)
        self.ends, self.goes = self.weights_to_ends()
        live = [place for place in self.begins if self.is_live(place, self.begins[place])]
        self.live = {place: self.live_steps(place) for place in live}
        flat = {place: [step[0] for step in self.live[place] if step[1] == 0] for place in live}
        self.parts = strong_parts(live, flat)
        self.part_of = {place: at for at, part in enumerate(self.parts) for place in part}

    def weights_to_ends(self):
        """As least_weights, for the ways back from full ends."""
        full = [place for place in self.begins if self.ways.is_end(place)]
        if not full:
            return {}, {}
        behind = {place: [] for place in self.begins}
        for place in self.begins:
            for to, weight, _, column in self.ways.ahead(place):
                if to in behind:
                    behind[to].append((place, weight, 0, column))

        def back(place):
            return behind[place]

        return least_weights(full, back, self.k)

    def is_live(self, place, weight):
        """Whether a full end is within k from a place to which a way of some weight came."""
        return place in self.ends and weight + self.ends[place] <= self.k

    def live_steps(self, place):
        """The ways from a place that lead on to live ones."""
        return [step for step in self.ways.ahead(place) if self.is_live(step[0], self.begins[place] + step[1])]

    def endless_rows(self):
        """A head, a ring without a weight but with signs on its first side, and a tail; None if there is no ring."""
        for place in self.live:
            for to, weight, signs, column in self.live[place]:
                if weight == 0 and signs > 0 and self.part_of[to] == self.part_of[place]:
                    head = way_back(self.came, place)[::-1]
                    return head, [column, *self.inside(to, place)], way_back(self.goes, place)
        return None

    def inside(self, place, goal):
        """A row without a weight from a place to another one of its part, or to itself."""
        part = self.part_of[goal]

        def ahead(at):
            return [step for step in self.live[at] if step[1] == 0 and self.part_of[step[0]] == part]

        return way_back(least_weights([place], ahead, 0)[1], goal)[::-1]


def least_weights(starts, ways, k):
    """Two dicts from the places that are come to within k: the least weights, and the last steps, None at starts.

    ways(place) tells (to, weight, signs, column), a step is a pair of the place ahead and the column.
    """
    weights = {}
    steps = {}
    layers = [[] for _ in range(k + 1)]
    layers[0] = [(start, None) for start in starts]
    for weight in range(k + 1):
        layer = layers[weight]
        at = 0
        while at < len(layer):
            place, step = layer[at]
            at += 1
            if place not in weights:
                weights[place] = weight
                steps[place] = step
                for to, more, _, column in ways(place):
                    if weight + more <= k and to not in weights:
                        layers[weight + more].append((to, (place, column)))
    return weights, steps
