"""Light ways: the least weights with which places can be come to, and the lightest way to an end."""

from nevermiss.dividing import Leaf, first_bad, told_tree
from nevermiss.spread import Spread
from nevermiss.ways import Ways


def bad_or_tree(question, limit):
    """A bad row within the limit and None, or None and a right tree."""

    def look_on(barred):
        return look(question, barred, limit)

    def deepest(leaf):
        # Any bad row will do: nearly divided leaves tell one sooner, and such whose texts share few keys.
        return -len(question.divided(leaf.barred)), len(leaf.common)

    root = look_on(0)
    bad = first_bad(question, root, look_on, deepest)
    if bad is not None:
        return question.ground.in_columns(bad.row), None
    return None, light_tree(question, root, limit)


def least_bad(question):
    """The least weight of a bad row, such a row, and a right tree for the bound below; None where there is none."""
    most = question.heaviest()
    bad, root = lightest_bad(question, most)
    if bad is None:
        return None, None, light_tree(question, root, most)
    tree = None if bad.worth == 0 else light_tree(question, root, bad.worth - 1)
    return bad.worth, question.ground.in_columns(bad.row), tree


def lightest_row(question, limit):
    """A bad row of the least weight, None if there is none within the limit."""
    bad, _ = lightest_bad(question, limit)
    return None if bad is None else question.ground.in_columns(bad.row)


def lightest_bad(question, limit):
    """The leaf with the lightest bad row within a limit, None if there is none, and where the division began."""

    def look_on(barred):
        return look(question, barred, limit)

    def lightest_way(leaf):
        return leaf.worth, len(leaf.common)

    root = look_on(0)
    return first_bad(question, root, look_on, lightest_way), root


def light_tree(question, root, limit):
    """The tree of the leaves behind a root, without the divisions and nodes that the limit does not need."""

    def is_done(leaf):
        return leaf.one is None or (limit is not None and leaf.worth > limit)

    def nodes(leaf):
        numbers = leaf.seen if leaf.one is None else look(question, leaf.barred, limit).seen
        places = [place for place in sorted(numbers) if limit is None or numbers[place] <= limit]
        return tuple([(*question.node(place), numbers[place]) for place in places])

    return told_tree(question, root, is_done, nodes)


def look(question, barred, limit):
    """A leaf with its lightest way to a full end within the limit; its worth is the weight of that way.

    What is seen are the numbers of the places that are come to ahead of that end: of all, if there is none. Without a
    limit weights do not matter, and all numbers are 0.
    """
    spread = Spread(Ways(question, barred), limit)
    end = spread.find_end()
    if end is None:
        return Leaf(question, barred, None, None, spread.numbers)
    return Leaf(question, barred, spread.row_to(end), spread.number, spread.numbers)
