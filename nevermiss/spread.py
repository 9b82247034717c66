"""How far ways lead from the first place on, within a limit, until an end is come to."""

from heapq import heappop, heappush

from nevermiss.ways import way_back


class Spread:
    """The places that are come to from the first one on, in layers of equal numbers.

    ways tells by ahead(place) the ways (to, weight, signs, column) from a place on, and by is_end(place) whether it is
    an end. numbers has the least weights of the places that are come to. Without a limit weights do not matter, and all
    numbers are 0.
    """

    def __init__(self, ways, limit):
        self.ways = ways
        self.limit = limit
        self.numbers = {0: 0}
        self.came = {0: None}
        self.layer = [0]
        self.number = 0
        self.queue = []

    def find_end(self):
        """Goes on to the first end and tells it, None if there is none; number is its weight."""
        while self.layer:
            end = self.grow()
            if end is not None:
                return end
            self.go_on()
        return None

    def row_to(self, place):
        """The indexes of the columns on a lightest way to a place."""
        return way_back(self.came, place)[::-1]

    def grow(self):
        """Adds to the layer what ways without a weight come to; stops at an end and tells it."""
        numbers, number, limit = self.numbers, self.number, self.limit
        at = 0
        while at < len(self.layer):
            place = self.layer[at]
            if self.ways.is_end(place):
                return place
            for to, weight, _, column in self.ways.ahead(place):
                if to not in numbers:
                    if weight == 0 or limit is None:
                        self.enter(to, place, column)
                    elif number + weight <= limit:
                        heappush(self.queue, (number + weight, to, place, column))
            at += 1
        return None

    def go_on(self):
        """Begins the next layer, with the next place that is new; there is none behind the limit."""
        self.layer = []
        while self.queue and not self.layer:
            number, to, place, column = heappop(self.queue)
            if to not in self.numbers:
                self.number = number
                self.enter(to, place, column)

    def enter(self, to, place, column):
        """Takes a new place into the layer, that is come to from another place by a column."""
        self.numbers[to] = self.number
        self.came[to] = (place, column)
        self.layer.append(to)
