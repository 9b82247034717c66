"""Which keys near texts share at the least, which are enough, and which do what other keys do."""

from nevermiss.asked import check_bound, check_keys, check_signs
from nevermiss.ground import Ground
from nevermiss.hitting import borders, least_hits, least_sets
from nevermiss.judging import is_light_tree
from nevermiss.lightways import bad_or_tree
from nevermiss.question import Question
from nevermiss.sure import Bad


class Meetings:
    """The least sets of keys that near texts share, with rows, and the least ones that are enough, with trees."""

    def __init__(self, met, enough):
        self.met = [(tuple(keys), tuple(columns)) for keys, columns in met]
        self.enough = [(tuple(keys), tree) for keys, tree in enough]


class Covers:
    """Keys that are covered by others, with right trees."""

    def __init__(self, trees):
        self.trees = [(key, tree) for key, tree in trees]


def meetings(rule, edits, k):
    """The Meetings of a rule."""
    check_signs(rule, edits)
    check_bound(k)
    ground = Ground(rule, edits)

    def ask(bits):
        columns, tree = bad_or_tree(Question(ground, (), ground.named(bits)), k)
        return (None, tree) if columns is None else (ground.shared(columns), columns)

    rows, trees = borders(ground.every, ask)
    return Meetings(ground.by_keys(rows), ground.by_keys(trees))


def least_count(rule, edits, k):
    """The least number of keys that near texts share."""
    return min([len(keys) for keys, columns in meetings(rule, edits, k).met])


def is_meetings(rule, edits, k, paper):
    """Whether a Meetings is right."""
    check_signs(rule, edits)
    check_bound(k)
    ground = Ground(rule, edits)
    rows = [edits.checked(columns) for keys, columns in paper.met]
    met = told_sets(ground, [keys for keys, columns in paper.met])
    enough = told_sets(ground, [keys for keys, tree in paper.enough])
    # If those that are told are met and are enough, there are no others where each list hits the other one just so.
    if met is None or enough is None or least_hits(met) != sorted(enough):
        return False
    for bits, columns in zip(met, rows):
        if ground.shared(columns) != bits or not ground.is_near(columns, k):
            return False
    for keys, tree in paper.enough:
        if not is_light_tree(Question(ground, (), keys), tree, k):
            return False
    return True


def told_sets(ground, sets):
    """Sets of keys as bits; None if one is not sorted or is within another one, or if they are not ascending."""
    for at, keys in enumerate(sets):
        if not all([key in ground.all_keys for key in keys]) or list(keys) != sorted(set(keys)):
            return None
        if at > 0 and sets[at - 1] >= keys:
            return None
    told = [ground.bits(keys) for keys in sets]
    return told if least_sets(told) == told else None


def covers(rule, edits, k, one, other):
    """Covers with right trees, or Bad with a row whose texts share a key of other and none of one."""
    check_cover(rule, edits, k, one, other)
    ground = Ground(rule, edits)
    trees = []
    for key in uncovered(one, other):
        columns, tree = bad_or_tree(Question(ground, (key,), one), k)
        if columns is not None:
            return Bad(columns)
        trees.append((key, tree))
    return Covers(trees)


def is_covers(rule, edits, k, one, other, paper):
    """Whether a Covers is right."""
    check_cover(rule, edits, k, one, other)
    if [key for key, tree in paper.trees] != uncovered(one, other):
        return False
    ground = Ground(rule, edits)
    for key, tree in paper.trees:
        if not is_light_tree(Question(ground, (key,), one), tree, k):
            return False
    return True


def check_cover(rule, edits, k, one, other):
    """Raises what is due where keys are to be covered by others."""
    check_signs(rule, edits)
    check_bound(k)
    check_keys(rule, one)
    check_keys(rule, other)


def uncovered(one, other):
    """The keys of other that are none of one, ascending."""
    return sorted([key for key in other if key not in one])
