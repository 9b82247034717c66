"""[30], [31], [32], [33]: sure, is_bad and is_sure of nevermiss/sure.py."""

import random
import unittest

import oracle
from nevermiss.edits import Edits
from nevermiss.machines import Machine
from nevermiss.parts import beside, counted, heads, pieces, sized, tails
from nevermiss.rules import Rule
from nevermiss.sure import Bad, Sure, is_bad, is_sure, sure

BOUNDS = [0, 1, 2, 5, 10 ** 30, 10 ** 40, None]


def rows_tried(edits):
    """Rows of columns of up to some length, not too many of them."""
    many = len(oracle.all_columns(edits))
    return list(oracle.rows_of_columns(edits, {1: 8, 2: 6, 3: 5, 4: 4}.get(many, 3 if many < 9 else 2)))


def delayed(steps):
    """A rule: at each step the sign gives one of two keys, to the second text one sign later: no column has both."""
    names = ["k%d%s" % (step, sign) for step in range(steps) for sign in "ab"]
    rows = [[(step + 1, [names[2 * step]]), (step + 1, [names[2 * step + 1]])] for step in range(steps)]
    left = Machine("ab", rows + [[(steps, []), (steps, [])]], [[]] * (steps + 1))
    # Behind the first state, two states for each step: which sign was read there.
    rows = [[(1, []), (2, [])]]
    for step in range(steps):
        for name in names[2 * step:2 * step + 2]:
            to = (2 * step + 3, 2 * step + 4) if step + 1 < steps else (2 * steps + 1,) * 2
            rows.append([(to[0], [name]), (to[1], [name])])
    rows.append([(2 * steps + 1, []), (2 * steps + 1, [])])
    return Rule(left, Machine("ab", rows, [[]] * len(rows)))


class Told(unittest.TestCase):
    def check(self, rule, edits, k, given, wanted):
        told = sure(rule, edits, k, given=given, wanted=wanted)
        if isinstance(told, Bad):
            self.assertIs(type(told.columns), tuple)
            self.assertTrue(oracle.is_bad(rule, edits, k, told.columns, given, wanted))
            self.assertIs(is_bad(rule, edits, k, told.columns, given=given, wanted=wanted), True)
        else:
            self.assertIsInstance(told, Sure)
            self.assertTrue(oracle.is_right_tree(rule, edits, k, told.tree, given, wanted))
            self.assertIs(is_sure(rule, edits, k, told.tree, given=given, wanted=wanted), True)
        return told

    def test_bad_or_sure(self):
        found = {Bad: 0, Sure: 0}
        for rule, edits, k, given, wanted in oracle.questions(1, 700):
            told = self.check(rule, edits, k, given, wanted)
            found[type(told)] += 1
            least = oracle.least_weight(rule, edits, given, wanted)
            self.assertIs(isinstance(told, Bad), least is not None and (k is None or least <= k))
        self.assertGreater(min(found.values()), 200)

    def test_no_short_row_is_bad_where_it_is_sure(self):
        for rule, edits, k, given, wanted in oracle.questions(2, 150):
            if isinstance(sure(rule, edits, k, given=given, wanted=wanted), Sure):
                for columns in rows_tried(edits):
                    self.assertFalse(oracle.is_bad(rule, edits, k, columns, given, wanted))

    def test_each_bound(self):
        for rule, edits, _, given, wanted in oracle.questions(3, 60):
            told = [isinstance(self.check(rule, edits, k, given, wanted), Bad) for k in BOUNDS]
            self.assertEqual(told, sorted(told))
            self.assertEqual(told[-2], told[-1])

    def test_trees_are_tuples(self):
        for rule, edits, k, given, wanted in oracle.questions(4, 150):
            told = sure(rule, edits, k, given=given, wanted=wanted)
            if isinstance(told, Sure):
                for _, part in oracle.parts_of_tree(told.tree):
                    self.assertIs(type(part), tuple)
                    if len(part) == 2:
                        self.assertEqual((part[0], type(part[1])), ("leaf", tuple))
                        for node in part[1]:
                            self.assertEqual([type(thing) for thing in node], [int, int, tuple, int])
                            self.assertEqual({type(flag) for flag in node[2]} - {int}, set())

    def test_deep_trees(self):
        edits = Edits("ab", [("a", "b", 1), ("b", "a", 1)])
        for steps in (2, 3, 4, 5):
            rule = delayed(steps)
            last = [rule.all_keys[-1]]
            for k in range(steps):
                told = self.check(rule, edits, k, last, None)
                self.assertIs(isinstance(told, Bad), k == steps - 1)
            self.assertGreater(len(oracle.leaves(sure(rule, edits, steps - 2, given=last).tree)), steps - 1)

    def test_greatest_machines(self):
        names = ["k%d" % at for at in range(12)]
        for seed in range(3):
            left = Machine("abcd", *oracle.parts_of_machine("abcd", 16, names, seed, 0.2, 0.5))
            right = Machine("dcba", *oracle.parts_of_machine("dcba", 16, names, seed + 50, 0.2, 0.5))
            edits = oracle.some_edits(random.Random(seed), "abcd", 24)
            for given in ((), names[:1], names[:2]):
                for rule in (Rule(left), Rule(left, right)):
                    for k in (1, None):
                        self.check(rule, edits, k, given, None)

    def test_plain_rules(self):
        edits = Edits.plain("ab", 9, 9, 1)
        for machine, k, is_missed in ((pieces("ab", 2), 0, False), (pieces("ab", 2), 1, True),
                                      (sized("ab", 3), 8, False),
                                      (sized("ab", 3), 9, True), (heads("ab", 1), 0, False), (heads("ab", 1), 1, True),
                                      (heads("ab", 0), None, False), (counted("ab", "a", 2), 1, True)):
            self.assertIs(isinstance(self.check(Rule(machine), edits, k, (), None), Bad), is_missed)

    def test_given_and_wanted(self):
        edits = Edits.plain("ab", 9, 9, 1)
        rule = Rule(beside(heads("ab", 1), sized("ab", 1)))
        for given, wanted, k, is_missed in ((("n1",), ("fa", "fb"), 0, False), (("n1",), ("fa", "fb"), 1, True),
                                            (("fa",), ("n1",), None, False), (("n0",), ("f",), 8, False),
                                            (("n0", "n1"), (), None, False), (("fa",), (), 0, True), ((), (), 0, True),
                                            (("f", "n1"), (), None, False), (("fa", "fb"), (), None, False),
                                            (("fa", "n1"), ("fb", "f", "n0"), 0, True)):
            told = self.check(rule, edits, k, given, wanted)
            self.assertIs(isinstance(told, Bad), is_missed, msg=repr((given, wanted, k)))

    def test_order_of_given(self):
        rule = Rule(beside(pieces("ab", 1), heads("ab", 0)))
        edits = Edits.plain("ab", 1, 1, 1)
        for given in (("pa", "pb"), ("pb", "pa"), ["pb", "pa"]):
            told = sure(rule, edits, 0, given=given)
            self.assertIsInstance(told, Sure)
            self.assertTrue(oracle.is_right_tree(rule, edits, 0, told.tree, given))
        rule = Rule(pieces("ab", 1), tails("ab", 0))
        told = sure(rule, Edits("ab", []), 3, given=("l", "pa"))
        self.assertTrue(oracle.is_right_tree(rule, Edits("ab", []), 3, told.tree, ("l", "pa")))
        self.assertTrue(is_sure(rule, Edits("ab", []), 3, told.tree, given=("l", "pa")))
        self.assertFalse(is_sure(rule, Edits("ab", []), 3, told.tree, given=("pa", "l")))

    def test_a_key_called_leaf(self):
        rows = [[(1, ["leaf"]), (1, [])], [(2, []), (2, ["leaf"])], [(2, []), (2, [])]]
        late = [[(1, []), (1, [])], [(2, ["leaf"]), (2, ["leaf"])], [(2, []), (2, [])]]
        rule = Rule(Machine("ab", rows, [[], ["e"], ["e"]]), Machine("ab", late, [[], [], ["e"]]))
        edits = Edits("ab", [("a", "b", 1)])
        told = self.check(rule, edits, 5, ("e",), ("leaf",))
        self.assertIsInstance(told, Bad)
        rule = Rule(Machine("ab", [[(1, ["leaf"]), (1, ["leaf"])], [(1, []), (1, [])]], [[], []]),
                    Machine("ab", late, [[], [], ["e"]]))
        rule = Rule(beside(rule.left, Machine("ab", [[(0, []), (0, [])]], [["e"]])), rule.right)
        told = self.check(rule, edits, 5, ("e",), ("leaf",))
        self.assertEqual((told.tree[0], len(told.tree)), ("leaf", 3))
        self.assertFalse(is_sure(rule, edits, 5, ("leaf", told.tree[2], told.tree[1]), given=("e",), wanted=("leaf",)))

    def test_equal_calls(self):
        for rule, edits, k, given, wanted in oracle.questions(5, 80):
            copies = (Rule(Machine(rule.left.signs, rule.left.rows, rule.left.ends),
                           Machine(rule.right.signs, rule.right.rows, rule.right.ends)),
                           Edits(edits.signs, list(edits.rows)))
            told = sure(rule, edits, k, given=given, wanted=wanted)
            again = sure(*copies, k, given=tuple(given), wanted=None if wanted is None else tuple(wanted))
            self.assertIs(type(told), type(again))
            if isinstance(told, Bad):
                self.assertEqual(told.columns, again.columns)
            else:
                self.assertEqual(told.tree, again.tree)

    def test_wanted_none_is_all_others(self):
        for rule, edits, k, given, _ in oracle.questions(6, 80):
            rest = [key for key in rule.all_keys if key not in given]
            told = [sure(rule, edits, k, given=given, **more) for more in ({}, {"wanted": None}, {"wanted": rest})]
            self.assertEqual(len({type(one) for one in told}), 1)
            for one in told:
                if isinstance(one, Sure):
                    self.assertTrue(is_sure(rule, edits, k, one.tree, given=given))
                    self.assertTrue(is_sure(rule, edits, k, one.tree, given=given, wanted=rest[::-1]))


class Judged(unittest.TestCase):
    def test_is_bad(self):
        found = {True: 0, False: 0}
        dice = random.Random(7)
        for rule, edits, k, given, wanted in oracle.questions(7, 150):
            rows = rows_tried(edits)
            for columns in dice.sample(rows, min(40, len(rows))):
                expected = oracle.is_bad(rule, edits, k, columns, given, wanted)
                found[expected] += 1
                for told in (columns, list(columns)):
                    self.assertIs(is_bad(rule, edits, k, told, given=given, wanted=wanted), expected)
        self.assertGreater(min(found.values()), 500)

    def test_is_bad_just_at_the_bound(self):
        rule, edits = Rule(heads("ab", 1)), Edits("ab", [("a", "b", 3)])
        self.assertEqual([is_bad(rule, edits, k, [0]) for k in (0, 2, 3, 4, None)], [False, False, True, True, True])
        self.assertEqual([is_bad(rule, edits, k, [0, 0]) for k in (3, 5, 6, None)], [False, False, True, True])
        self.assertEqual([is_bad(rule, edits, k, ["a", 0]) for k in (3, None)], [False, False])

    def test_what_is_shared_beside_is_of_no_importance(self):
        rule, edits = Rule(beside(heads("ab", 1), sized("ab", 1))), Edits("ab", [("a", "b", 3)])
        for given, wanted, told in (((), ("n1",), False), ((), ("n0",), True), (("n1",), ("fa",), True),
                                    (("fa",), ("n1",), False), ((), (), True), (("n1",), None, True),
                                    ((), None, False)):
            self.assertIs(is_bad(rule, edits, 3, [0], given=given, wanted=wanted), told)

    def test_trees_with_one_thing_changed(self):
        found = {True: 0, False: 0}
        dice = random.Random(8)
        for rule, edits, k, given, wanted in oracle.questions(8, 300):
            told = sure(rule, edits, k, given=given, wanted=wanted)
            if isinstance(told, Sure):
                for tree in oracle.changed_trees(dice, rule, given, told.tree, 25):
                    expected = oracle.is_right_tree(rule, edits, k, tree, given, wanted)
                    found[expected] += 1
                    for passed in (tree, oracle.as_lists(tree)):
                        self.assertIs(is_sure(rule, edits, k, passed, given=given, wanted=wanted), expected,
                                      msg=repr((tree, given, wanted, k)))
        self.assertGreater(min(found.values()), 500)

    def test_deep_trees_with_one_thing_changed(self):
        found = {True: 0, False: 0}
        dice = random.Random(9)
        edits = Edits("ab", [("a", "b", 1), ("b", "a", 1)])
        for steps in (2, 3, 4):
            rule = delayed(steps)
            last = [rule.all_keys[-1]]
            right = sure(rule, edits, steps - 2, given=last).tree
            for tree in oracle.changed_trees(dice, rule, last, right, 300):
                expected = oracle.is_right_tree(rule, edits, steps - 2, tree, last)
                found[expected] += 1
                self.assertIs(is_sure(rule, edits, steps - 2, tree, given=last), expected, msg=repr(tree))
        self.assertGreater(min(found.values()), 100)

    def test_for_other_questions(self):
        dice = random.Random(10)
        kept = [(*question, sure(*question[:3], given=question[3], wanted=question[4]))
                for question in oracle.questions(10, 200, states=2, names=2)]
        kept = [one for one in kept if isinstance(one[5], Sure)]
        found = {True: 0, False: 0}
        for rule, edits, k, given, wanted, _ in kept:
            for other in dice.sample(kept, 10):
                # A tree of another question has just the form of one for this question.
                expected = oracle.is_right_tree(rule, edits, k, other[5].tree, given, wanted)
                found[expected] += 1
                self.assertIs(is_sure(rule, edits, k, other[5].tree, given=given, wanted=wanted), expected)
        self.assertGreater(min(found.values()), 20)

    def test_all_keys_divided(self):
        # The other way round in [32]: all keys of wanted are divided, and all nodes have the least weights.
        def nodes(rule, edits, k, way, wanted):
            weights = {(0, 0): 0}
            changed = True
            while changed:
                changed = False
                for p, q in list(weights):
                    for to_p, to_q, first, second, weight, _, _ in oracle.moves(rule, edits, p, q):
                        h = weights[(p, q)] + weight
                        if h <= k and not oracle.is_barred(way, wanted, first, second):
                            if weights.get((to_p, to_q), h + 1) > h:
                                weights[(to_p, to_q)] = h
                                changed = True
            return tuple([(p, q, (), h) for (p, q), h in weights.items()])

        def grown(rule, edits, k, way, wanted):
            if len(way) == len(wanted):
                return ("leaf", nodes(rule, edits, k, way, wanted))
            key = wanted[len(way)]
            return (key, grown(rule, edits, k, way + ((key, "first"),), wanted),
                    grown(rule, edits, k, way + ((key, "second"),), wanted))

        found = {True: 0, False: 0}
        for rule, edits, k, given, wanted in oracle.questions(11, 150, names=3):
            wanted = oracle.all_wanted(rule, (), wanted)
            if k is not None and k < 10 and len(wanted) <= 4:
                is_right = isinstance(sure(rule, edits, k, wanted=wanted), Sure)
                found[is_right] += 1
                for order in (wanted, wanted[::-1]):
                    tree = grown(rule, edits, k, (), order)
                    self.assertIs(is_sure(rule, edits, k, tree, wanted=wanted), is_right)
        self.assertGreater(min(found.values()), 20)

    def test_plain_trees(self):
        rule, edits = Rule(sized("ab", 0)), Edits.plain("ab", 9, 9, 1)
        right = ("leaf", ((0, 0, (), 0),))
        for tree, told in ((right, True), (["leaf", [[0, 0, [], 0]]], True), (("leaf", ()), False),
                           (("leaf", []), False),
                           (("leaf", ((0, 0, (), 1),)), False), (("leaf", ((0, 0, (), -1),)), False),
                           (("leaf", ((0, 0, (), 0), (0, 0, (), 0))), False), (("leaf", ((0, 0, (0,), 0),)), False),
                           (("leaf", ((0, 0, (0, 0), 0),)), False), (("leaf", ((0, 1, (), 0),)), False),
                           (("leaf", ((0, 0, (), 0), (0, 1, (), 0))), False),
                           (("leaf", ((0, 0, (), 0), (-1, 0, (), 0))), False),
                           (("n0", right, right), True), (["n0", right, ["leaf", [(0, 0, (), 0)]]], True),
                           (("n0", right, ("n0", right, right)), False), (("n1", right, right), False),
                           (("", right, right), False), (("n0", right[1]), False), (("", right[1]), False),
                           (("n0", right, ("leaf", ())), False),
                           (("n0", ("leaf", ()), right), False)):
            self.assertIs(is_sure(rule, edits, 5, tree), told, msg=repr(tree))

    def test_keys_that_are_not_wanted(self):
        rule, edits = Rule(beside(sized("ab", 0), heads("ab", 0))), Edits.plain("ab", 9, 9, 1)
        right = ("leaf", ((0, 0, (), 0),))
        for key in ("n0", "f"):
            self.assertTrue(is_sure(rule, edits, 5, (key, right, right)))
            self.assertTrue(is_sure(rule, edits, 5, (key, right, right), wanted=[key]))
        self.assertFalse(is_sure(rule, edits, 5, ("f", right, right), wanted=["n0"]))
        right = sure(rule, edits, 5, given=["f"]).tree
        self.assertTrue(is_sure(rule, edits, 5, ("n0", right, right), given=["f"]))
        self.assertFalse(is_sure(rule, edits, 5, ("f", right, right), given=["f"]))

    def test_whose_key_it_is(self):
        # The first text gets k by the sign a, the second one at its next sign.
        left = Machine("a", [[(1, ["k"])], [(1, [])]], [["e"], []])
        right = Machine("a", [[(1, [])], [(1, ["k"])]], [["e"], []])
        rule, edits = Rule(left, right), Edits("a", [])
        told = sure(rule, edits, 0, wanted=["k", "e"])
        self.assertIsInstance(told, Bad)
        rule = Rule(left, Machine("a", [[(1, [])], [(2, ["k"])], [(2, [])]], [["e"], ["e"], []]))
        rule = Rule(Machine("a", left.rows, [["e"], ["e"]]), rule.right)
        tree = sure(rule, edits, 0).tree
        self.assertEqual(tree[0], "k")
        first, second = tree[1], tree[2]
        self.assertNotEqual(first, second)
        self.assertTrue(is_sure(rule, edits, 0, tree))
        self.assertFalse(is_sure(rule, edits, 0, ("k", second, first)))
        self.assertFalse(is_sure(rule, edits, 0, first))
        self.assertFalse(is_sure(rule, edits, 0, second))

    def test_numbers_above_the_bound(self):
        rule, edits = Rule(heads("ab", 1)), Edits("ab", [("a", "b", 3), ("b", "a", 3)])
        tree = sure(rule, edits, 2).tree
        nodes = dict([((p, q), h) for p, q, flags, h in tree[1]])
        self.assertTrue(is_sure(rule, edits, 2, tree))
        self.assertEqual([is_sure(rule, edits, k, tree) for k in (0, 1, 2, 3, 4, None)], [True] * 3 + [False] * 3)
        # A number that is greater than the bound does no harm if the place cannot be come to within it.
        self.assertNotIn((1, 2), nodes)
        more = ("leaf", tree[1] + ((2, 1, (), 7),))
        self.assertIs(is_sure(rule, edits, 2, more), oracle.is_right_tree(rule, edits, 2, more))


class Papers(unittest.TestCase):
    def test_fields(self):
        columns = ["a", 0, 1]
        bad = Bad(columns)
        columns.append("b")
        self.assertEqual((bad.columns, Bad(columns=("a",)).columns, Bad([]).columns), (("a", 0, 1), ("a",), ()))
        tree = ("leaf", ((0, 0, (), 0),))
        self.assertEqual((Sure(tree).tree, Sure(tree=tree).tree), (tree, tree))

    def test_papers_of_callers(self):
        rule, edits = Rule(heads("ab", 1)), Edits("ab", [("a", "b", 3)])
        self.assertTrue(is_bad(rule, edits, 3, Bad([0]).columns))
        tree = oracle.as_lists(sure(rule, edits, 2).tree)
        self.assertTrue(is_sure(rule, edits, 2, Sure(tree).tree))


if __name__ == "__main__":
    unittest.main()
