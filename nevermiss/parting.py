"""Parts of places that can all be come to from one another."""


def strong_parts(places, leads):
    """The places in parts, as large as they can be, in which ways lead from each place to each other one.

    leads is a dict from places to lists of places. Ways lead from a part to parts that are told ahead of it alone.
    """
    tour = Tour(leads)
    for place in places:
        if place not in tour.order:
            tour.walk(place)
    return tour.parts


class Tour:
    """A walk through places, depth first: a part is told when the place by which it was entered is left."""

    def __init__(self, leads):
        self.leads = leads
        self.order = {}
        self.lowest = {}
        self.used = {}
        self.open_places = []
        self.told = {}
        self.parts = []

    def walk(self, root):
        """Walks through the new places that are come to from a root on."""
        path = [root]
        self.enter(root)
        while path:
            place = path[-1]
            if self.used[place] < len(self.leads[place]):
                to = self.leads[place][self.used[place]]
                self.used[place] += 1
                if to not in self.order:
                    path.append(to)
                    self.enter(to)
                elif to not in self.told:
                    self.lowest[place] = min(self.lowest[place], self.order[to])
            else:
                path.pop()
                self.leave(place)
                if path:
                    self.lowest[path[-1]] = min(self.lowest[path[-1]], self.lowest[place])

    def enter(self, place):
        """Numbers a new place."""
        self.order[place] = len(self.order)
        self.lowest[place] = self.order[place]
        self.used[place] = 0
        self.open_places.append(place)

    def leave(self, place):
        """Tells the part that was entered by a place, if it leads back to none ahead of it."""
        if self.lowest[place] == self.order[place]:
            part = []
            while place not in self.told:
                part.append(self.open_places.pop())
                self.told[part[-1]] = True
            self.parts.append(part)
