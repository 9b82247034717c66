"""Whether near texts share the keys that they should: sure by a tree of cases, or bad by a row of columns."""

from nevermiss.asked import asked, check_bound, check_signs
from nevermiss.basics import is_whole
from nevermiss.judging import is_bad_row, is_light_tree
from nevermiss.lightways import bad_or_tree, least_bad


class Bad:
    """A row of columns that is bad."""

    def __init__(self, columns):
        self.columns = tuple(columns)


class Sure:
    """A right tree: no row of columns is bad."""

    def __init__(self, tree):
        self.tree = tree


class Lowest:
    """The least weight of a bad row, such a row, and a right tree for the bound below that weight."""

    def __init__(self, weight, columns, tree):
        self.weight = weight
        self.columns = None if columns is None else tuple(columns)
        self.tree = tree


def sure(rule, edits, k, *, given=(), wanted=None):
    """Bad with a bad row, or Sure with a right tree if there is none."""
    check_signs(rule, edits)
    check_bound(k)
    columns, tree = bad_or_tree(asked(rule, edits, given, wanted), k)
    return Sure(tree) if columns is None else Bad(columns)


def is_bad(rule, edits, k, columns, *, given=(), wanted=None):
    """Whether a row of columns is bad."""
    check_signs(rule, edits)
    check_bound(k)
    return is_bad_row(asked(rule, edits, given, wanted), columns, k)


def is_sure(rule, edits, k, tree, *, given=(), wanted=None):
    """Whether a tree is right."""
    check_signs(rule, edits)
    check_bound(k)
    return is_light_tree(asked(rule, edits, given, wanted), tree, k)


def lowest(rule, edits, *, given=(), wanted=None):
    """The Lowest: how much it weighs at least to miss something."""
    check_signs(rule, edits)
    weight, columns, tree = least_bad(asked(rule, edits, given, wanted))
    return Lowest(weight, columns, tree)


def is_lowest(rule, edits, paper, *, given=(), wanted=None):
    """Whether a Lowest is right."""
    check_signs(rule, edits)
    question = asked(rule, edits, given, wanted)
    if paper.columns is None:
        return paper.weight is None and is_light_tree(question, paper.tree, None)
    weight = edits.weighed(paper.columns)
    if not is_whole(paper.weight) or paper.weight != weight or not is_bad_row(question, paper.columns, None):
        return False
    return paper.tree is None if weight == 0 else is_light_tree(question, paper.tree, weight - 1)
