"""One text: whether near ones miss it, and which keys it lacks."""

from nevermiss.asked import check_bound, check_signs
from nevermiss.ground import Ground
from nevermiss.hitting import borders
from nevermiss.judging import are_low, paired_numbers
from nevermiss.spots import NearWays, Spots
from nevermiss.spread import Spread


class Miss:
    """The least weight of a row that tells a text and one that it misses, and such a row; None if it misses none."""

    def __init__(self, weight, columns):
        self.weight = weight
        self.columns = None if columns is None else tuple(columns)


def miss_of(rule, edits, text):
    """The Miss of a text."""
    return lightest_miss(spots_of(rule, edits, text))


def fence_of(rule, edits, text, k):
    """A right fence: a paper that a text is not missed within k; None if it is."""
    spots = spots_within(rule, edits, text, k)
    spread = Spread(NearWays(spots, spots.own), k)
    if spread.find_end() is not None:
        return None
    return {divmod(spot, spots.many_right): spread.numbers[spot] for spot in sorted(spread.numbers)}


def is_fence(rule, edits, text, k, places):
    """Whether a dict from spots to numbers is a right fence."""
    spots = spots_within(rule, edits, text, k)
    numbers = paired_numbers(places, len(text) + 1, spots.many_right)
    return numbers is not None and are_low(NearWays(spots, spots.own), numbers, k)


def near_sets(rule, edits, text, k):
    """All least sets among the sets of keys that near ones have, with rows."""
    spots = spots_within(rule, edits, text, k)
    return spots.ground.by_keys(near_borders(spots, 0, k)[0])


def lacks(rule, edits, text, k):
    """All least sets of keys with which a text is missed by no near one."""
    return lacked(spots_within(rule, edits, text, k), k)


def risks(table, rule, edits):
    """The pairs (weight, name) of the names that can be missed."""
    ground = ground_of(table, rule, edits)
    weights = [(lightest_miss(Spots(ground, text)).weight, name) for name, text in table.named()]
    return tuple(sorted([(weight, name) for weight, name in weights if weight is not None]))


def mended(table, rule, edits, k):
    """A dict from the names that are missed within k to the fewest keys with which they are not, None if none are."""
    ground = ground_of(table, rule, edits)
    check_bound(k)
    sets = {name: lacked(Spots(ground, text), k) for name, text in table.named()}
    return {name: min(sets[name], key=lambda keys: (len(keys), keys), default=None)
            for name in sets if sets[name] != [()]}


def spots_of(rule, edits, text):
    """The spots of a text of which something is asked; its letters are looked at as it is read."""
    check_signs(rule, edits)
    return Spots(Ground(rule, edits), text)


def spots_within(rule, edits, text, k):
    """The spots of a text of which something is asked within a bound."""
    spots = spots_of(rule, edits, text)
    check_bound(k)
    return spots


def ground_of(table, rule, edits):
    """The ground of a rule and edits for the texts of a table."""
    check_signs(table, rule)
    check_signs(table, edits)
    return Ground(rule, edits)


def lightest_miss(spots):
    """The Miss of a text whose spots are told."""
    spread = Spread(NearWays(spots, spots.own), spots.heaviest())
    end = spread.find_end()
    if end is None:
        return Miss(None, None)
    return Miss(spread.number, spots.ground.in_columns(spread.row_to(end)))


def lacked(spots, k):
    """As lacks, for a text whose spots are told."""
    return sorted([spots.ground.named(bits) for bits in near_borders(spots, spots.own, k)[1]])


def near_borders(spots, without, k):
    """The borders of the sets of keys that near ones within k have, of those that have none of some keys."""

    def ask(bits):
        spread = Spread(NearWays(spots, without | bits), k)
        end = spread.find_end()
        if end is None:
            return None, None
        row = spread.row_to(end)
        return spots.keys_of(row), spots.ground.in_columns(row)

    return borders(spots.ground.every, ask)
