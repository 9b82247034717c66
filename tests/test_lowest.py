"""[34]: lowest and is_lowest of nevermiss/sure.py."""

import random
import unittest

import oracle
from nevermiss.edits import Edits
from nevermiss.machines import Machine
from nevermiss.parts import beside, heads, pieces, sized
from nevermiss.rules import Rule
from nevermiss.sure import Lowest, Sure, is_bad, is_lowest, is_sure, lowest, sure

LEAF = ("leaf", ((0, 0, (), 0),))


def is_right(rule, edits, paper, given, wanted, least):
    """Whether a paper is right, by the words of [34]."""
    if paper.weight != least or (paper.weight is None) != (paper.columns is None):
        return False
    if least is not None:
        x, y, weight = oracle.tell(edits, paper.columns)
        if weight != least or not oracle.is_bad(rule, edits, None, paper.columns, given, wanted):
            return False
    if least == 0:
        return paper.tree is None
    bound = None if least is None else least - 1
    return paper.tree is not None and oracle.is_right_tree(rule, edits, bound, paper.tree, given, wanted)


class Told(unittest.TestCase):
    def test_weights(self):
        found = {}
        for rule, edits, _, given, wanted in oracle.questions(21, 500):
            paper = lowest(rule, edits, given=given, wanted=wanted)
            self.assertIsInstance(paper, Lowest)
            least = oracle.least_weight(rule, edits, given, wanted)
            self.assertEqual(paper.weight, least)
            self.assertTrue(is_right(rule, edits, paper, given, wanted, least))
            self.assertIs(is_lowest(rule, edits, paper, given=given, wanted=wanted), True)
            self.assertIs(type(paper.columns), type(None) if least is None else tuple)
            found[least] = found.get(least, 0) + 1
        self.assertGreater(min(found[None], found[0], found[1]), 20)
        self.assertGreater(sum([found[least] for least in found if least is not None and least > 1]), 30)

    def test_no_short_row_weighs_less(self):
        for rule, edits, _, given, wanted in oracle.questions(22, 150):
            weight = lowest(rule, edits, given=given, wanted=wanted).weight
            for columns in oracle.rows_of_columns(edits, 4 if len(edits.rows) < 3 else 2):
                if oracle.is_bad(rule, edits, None, columns, given, wanted):
                    self.assertIsNotNone(weight)
                    self.assertLessEqual(weight, oracle.tell(edits, columns)[2])

    def test_as_sure_tells(self):
        for rule, edits, _, given, wanted in oracle.questions(23, 150):
            weight = lowest(rule, edits, given=given, wanted=wanted).weight
            for k in (0, 1, 2, 5, 10 ** 30, 10 ** 40, None):
                told = sure(rule, edits, k, given=given, wanted=wanted)
                self.assertIs(isinstance(told, Sure), weight is None or (k is not None and k < weight))

    def test_plain_ones(self):
        edits = Edits.plain("ab", 9, 9, 1)
        for machine, weight in ((pieces("ab", 2), 1), (sized("ab", 3), 9), (heads("ab", 1), 1), (sized("ab", 0), None),
                                (beside(sized("ab", 1), heads("ab", 1)), 9),
                                (beside(sized("ab", 2), heads("ab", 0)), None)):
            paper = lowest(Rule(machine), edits)
            self.assertEqual(paper.weight, weight)
            if weight is None:
                self.assertIsNone(paper.columns)
                self.assertTrue(is_sure(Rule(machine), edits, None, paper.tree))
            else:
                self.assertEqual(edits.weighed(paper.columns), weight)
                self.assertTrue(is_bad(Rule(machine), edits, weight, paper.columns))
                self.assertTrue(is_sure(Rule(machine), edits, weight - 1, paper.tree))

    def test_a_weight_of_0(self):
        rule, edits = Rule(heads("ab", 1)), Edits("ab", [("a", "b", 0), ("b", "a", 1)])
        paper = lowest(rule, edits)
        self.assertEqual((paper.weight, paper.tree), (0, None))
        self.assertTrue(is_bad(rule, edits, 0, paper.columns))
        paper = lowest(rule, edits, wanted=())
        self.assertEqual((paper.weight, paper.columns, paper.tree), (0, (), None))

    def test_great_weights(self):
        great = 10 ** 30
        rule, edits = Rule(sized("ab", 5)), Edits("ab", [("ab", "", great), ("", "a", great - 1)])
        paper = lowest(rule, edits)
        self.assertEqual(paper.weight, great - 1)
        self.assertTrue(is_lowest(rule, edits, paper))
        paper = lowest(Rule(heads("ab", 2)), Edits("ab", [("ab", "ba", great)]))
        self.assertEqual(paper.weight, great)
        self.assertTrue(is_lowest(Rule(heads("ab", 2)), Edits("ab", [("ab", "ba", great)]), paper))
        rule = Rule(pieces("ab", 1))
        edits = Edits("ab", [("a", "b", great), ("b", "a", great - 1), ("bab", "aaa", great)])
        self.assertEqual(lowest(rule, edits, given=("pa",)).weight, oracle.least_weight(rule, edits, ("pa",)))

    def test_many_edits_of_a_great_weight(self):
        # The first text has to be empty, the second one has to have fifteen signs.
        great = 10 ** 30
        left = Machine("a", [[(1, [])], [(1, [])]], [["e", "w"], ["w"]])
        right = Machine("a", [[(min(state + 1, 15), [])] for state in range(16)], [["e", "w"]] * 15 + [["e"]])
        for rows, weight in (([("", "a", great)], 15), ([("", "a", great), ("", "aa", great)], 8),
                             ([("", "aaa", great)], 5), ([("a", "aa", 0)], None)):
            paper = lowest(Rule(left, right), Edits("a", rows), given=("e",))
            self.assertEqual(paper.weight, None if weight is None else weight * great)
            self.assertTrue(is_lowest(Rule(left, right), Edits("a", rows), paper, given=("e",)))

    def test_ways_through_many_pairs_of_states(self):
        # Each sign column, and each other edit, leads one of the machines astray: what is left weighs each time.
        great = 10 ** 30
        for many, other, weight in ((7, 9, 62), (5, 6, 29), (2, 3, 5), (15, 14, 209), (4, 6, 11)):
            left = Machine("ab", [[((at + 1) % many, []), (many, [])] for at in range(many)] + [[(many, [])] * 2],
                           [["w"]] * (many - 1) + [["e", "w"], ["w"]])
            right = Machine("ab", [[(other, []), ((at + 1) % other, [])] for at in range(other)] + [[(other, [])] * 2],
                            [["w"]] * (other - 1) + [["e"], ["w"]])
            rule, edits = Rule(left, right), Edits("ab", [("a", "b", great)])
            paper = lowest(rule, edits, given=("e",))
            self.assertEqual(paper.weight, weight * great)
            self.assertTrue(is_lowest(rule, edits, paper, given=("e",)))
            if weight < 70:
                self.assertTrue(is_right(rule, edits, paper, ("e",), None, weight * great))

    def test_equal_calls(self):
        for rule, edits, _, given, wanted in oracle.questions(24, 60):
            one = lowest(rule, edits, given=given, wanted=wanted)
            other = lowest(Rule(rule.left, rule.right), Edits(edits.signs, edits.rows), given=given, wanted=wanted)
            self.assertEqual((one.weight, one.columns, one.tree), (other.weight, other.columns, other.tree))


class Judged(unittest.TestCase):
    def check(self, rule, edits, paper, given, wanted, least):
        expected = is_right(rule, edits, paper, given, wanted, least)
        self.assertIs(is_lowest(rule, edits, paper, given=given, wanted=wanted), expected,
                      msg=repr((paper.weight, paper.columns, paper.tree)))
        return expected

    def test_papers_with_one_thing_changed(self):
        found = {True: 0, False: 0}
        dice = random.Random(25)
        for rule, edits, _, given, wanted in oracle.questions(25, 250):
            right = lowest(rule, edits, given=given, wanted=wanted)
            least = oracle.least_weight(rule, edits, given, wanted)
            columns = list(right.columns or ())
            papers = [Lowest(weight, right.columns, right.tree) for weight in (None, 0, 1, -1, 10 ** 30, 10 ** 41)]
            if least is not None:
                papers += [Lowest(least + more, right.columns, right.tree) for more in (1, -1)]
                free = sure(rule, edits, None, given=given, wanted=oracle.all_wanted(rule, given, wanted))
                papers += [Lowest(least, right.columns, getattr(free, "tree", None))]
            for row in (None, (), columns + [edits.signs[0]], columns[1:], columns[:-1], columns[::-1],
                        *[columns + [at] for at in range(len(edits.rows))], *[[at] for at in range(len(edits.rows))]):
                papers.append(Lowest(right.weight, row, right.tree))
            papers += [Lowest(right.weight, right.columns, tree) for tree in (None, LEAF, ("leaf", ()))]
            if right.tree is not None:
                papers += [Lowest(right.weight, list(right.columns or ()) or right.columns, tree)
                           for tree in oracle.changed_trees(dice, rule, given, right.tree, 10)]
                papers.append(Lowest(right.weight, right.columns, oracle.as_lists(right.tree)))
            for paper in papers:
                if paper.columns is None or set(paper.columns) <= set(oracle.all_columns(edits)):
                    found[self.check(rule, edits, paper, given, wanted, least)] += 1
        self.assertGreater(min(found.values()), 300)

    def test_one_of_them_missing(self):
        edits = Edits.plain("ab", 9, 9, 1)
        rule = Rule(pieces("ab", 2))
        right = lowest(rule, edits)
        self.assertEqual(right.weight, 1)
        for weight, columns, tree, told in ((1, right.columns, right.tree, True),
                                            (None, right.columns, right.tree, False),
                                            (1, None, right.tree, False), (1, right.columns, None, False),
                                            (None, None, right.tree, False), (None, None, None, False),
                                            (1, list(right.columns), oracle.as_lists(right.tree), True),
                                            (2, right.columns, right.tree, False), (0, right.columns, None, False),
                                            (1, (), right.tree, False), (0, (), None, False),
                                            (True, right.columns, right.tree, False)):
            self.assertIs(is_lowest(rule, edits, Lowest(weight, columns, tree)), told)
        rule = Rule(sized("ab", 0))
        right = lowest(rule, edits)
        for weight, columns, tree, told in ((None, None, right.tree, True), (None, None, LEAF, True),
                                            (None, None, None, False),
                                            (0, (), None, False), (0, None, LEAF, False), (None, (), LEAF, False),
                                            (5, (0,), LEAF, False), (None, None, ("leaf", ()), False)):
            self.assertIs(is_lowest(rule, edits, Lowest(weight, columns, tree)), told)

    def test_a_tree_for_a_less_bound(self):
        rule, edits = Rule(sized("ab", 5)), Edits("ab", [("a", "", 5), ("b", "", 7)])
        right = lowest(rule, edits)
        self.assertEqual(right.weight, 5)
        for k, told in ((4, True), (3, True), (0, True)):
            tree = sure(rule, edits, k).tree
            self.assertIs(is_lowest(rule, edits, Lowest(5, right.columns, tree)),
                          oracle.is_right_tree(rule, edits, 4, tree))
            self.assertIs(is_lowest(rule, edits, Lowest(5, right.columns, tree)), told)
        # A row that weighs more is bad, too, but there is no right tree for the bound below it.
        more = (1,)
        self.assertTrue(is_bad(rule, edits, None, more))
        self.assertFalse(is_lowest(rule, edits, Lowest(7, more, right.tree)))

    def test_no_tree_where_none_is_due(self):
        rule, edits = Rule(heads("ab", 1)), Edits("ab", [("a", "b", 0)])
        right = lowest(rule, edits)
        self.assertTrue(is_lowest(rule, edits, Lowest(0, right.columns, None)))
        self.assertTrue(is_lowest(rule, edits, Lowest(0, [0], None)))
        for tree in (LEAF, ("leaf", ())):
            self.assertFalse(is_lowest(rule, edits, Lowest(0, right.columns, tree)))

    def test_fields(self):
        columns = [0, "a"]
        paper = Lowest(3, columns, LEAF)
        columns.append("b")
        self.assertEqual((paper.weight, paper.columns, paper.tree), (3, (0, "a"), LEAF))
        paper = Lowest(tree=None, columns=None, weight=None)
        self.assertEqual((paper.weight, paper.columns, paper.tree), (None, None, None))


if __name__ == "__main__":
    unittest.main()
