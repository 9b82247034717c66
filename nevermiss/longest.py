"""How long the first texts of bad rows can be."""

from nevermiss.asked import asked, check_signs, check_whole
from nevermiss.basics import is_whole
from nevermiss.judging import is_bad_row, is_far_tree
from nevermiss.longways import far_tree, longest_bad

MOST_BOUND = 30


class Longest:
    """The number of signs of the longest first text of bad rows, such a row, and a right tree for this number."""

    def __init__(self, many, columns, tree):
        self.many = many
        self.columns = None if columns is None else tuple(columns)
        self.tree = tree


class Endless:
    """Three rows of columns: there is no greatest length, as the ring may stand any number of times."""

    def __init__(self, head, ring, tail):
        self.head = tuple(head)
        self.ring = tuple(ring)
        self.tail = tuple(tail)


def longest(rule, edits, k, *, given=(), wanted=None):
    """Endless with a ring, or Longest with a right tree if there is a greatest length."""
    question = question_within(rule, edits, k, given, wanted)
    ground = question.ground
    bad, root = longest_bad(question, k)
    if bad is None:
        return Longest(None, None, far_tree(question, root, k, None))
    if bad.worth is None:
        head, ring, tail = bad.seen
        return Endless(ground.in_columns(head), ground.in_columns(ring), ground.in_columns(tail))
    return Longest(bad.worth, ground.in_columns(bad.row), far_tree(question, root, k, bad.worth))


def is_longest(rule, edits, k, paper, *, given=(), wanted=None):
    """Whether a Longest or an Endless is right."""
    question = question_within(rule, edits, k, given, wanted)
    if isinstance(paper, Endless):
        return is_endless(question, k, paper)
    if paper.columns is None:
        return paper.many is None and is_far_tree(question, paper.tree, k, None)
    first = edits.texts(paper.columns)[0]
    if not is_whole(paper.many) or paper.many != len(first) or not is_bad_row(question, paper.columns, k):
        return False
    return is_far_tree(question, paper.tree, k, paper.many)


def is_endless(question, k, paper):
    """Whether an Endless is right."""
    once = paper.head + paper.ring
    twice = once + paper.ring
    if not is_bad_row(question, once + paper.tail, k) or not is_bad_row(question, twice + paper.tail, k):
        return False
    rule, edits = question.ground.rule, question.ground.edits
    if edits.weighed(paper.ring) != 0 or edits.texts(paper.ring)[0] == "":
        return False
    x, y = edits.texts(paper.head)
    far_x, far_y = edits.texts(once)
    return rule.left.after(x) == rule.left.after(far_x) and rule.right.after(y) == rule.right.after(far_y)


def question_within(rule, edits, k, given, wanted):
    """The question that is asked, with a bound that is none of the great ones."""
    check_signs(rule, edits)
    check_whole(k, MOST_BOUND)
    return asked(rule, edits, given, wanted)
