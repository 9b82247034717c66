"""[50], [51] and nevermiss/choice.py."""

import random
import unittest

import oracle
from nevermiss.choice import Covers, Meetings, covers, is_covers, is_meetings, least_count, meetings
from nevermiss.edits import Edits
from nevermiss.machines import Machine
from nevermiss.parts import beside, heads, pieces, sized, tails
from nevermiss.rules import Rule
from nevermiss.sure import Bad, Sure, is_bad, is_sure, sure

LEAF = ("leaf", ((0, 0, (), 0),))
PLAIN = Edits.plain("ab", 9, 9, 1)
BOTH = Rule(beside(heads("ab", 1), sized("ab", 1)))


def has_order(sets):
    """Whether sets are sorted tuples, ascending, none within another one."""
    return (sets == sorted(set(sets)) and all([one == tuple(sorted(set(one))) for one in sets])
            and oracle.least_sets(sets) == sets)


def is_right(rule, edits, k, paper, met, enough):
    """Whether a Meetings is right, where these are all sets that there are."""
    return ([keys for keys, _ in paper.met] == met and [keys for keys, _ in paper.enough] == enough
            and all([oracle.is_near(edits, k, columns) and oracle.shared(rule, edits, columns) == set(keys)
                     for keys, columns in paper.met])
            and all([oracle.is_right_tree(rule, edits, k, tree, (), keys) for keys, tree in paper.enough]))


class MeetingsTold(unittest.TestCase):
    def test_all_sets(self):
        found = {}
        for rule, edits, k, _, _ in oracle.questions(41, 250, states=3, names=4):
            paper = meetings(rule, edits, k)
            self.assertIsInstance(paper, Meetings)
            met = oracle.met_sets(rule, edits, k)
            enough = oracle.hitting_sets(met, rule.all_keys)
            self.assertTrue(is_right(rule, edits, k, paper, met, enough))
            self.assertTrue(has_order([keys for keys, _ in paper.met]))
            self.assertTrue(has_order([keys for keys, _ in paper.enough]))
            self.assertIs(is_meetings(rule, edits, k, paper), True)
            self.assertEqual(least_count(rule, edits, k), min([len(keys) for keys in met]))
            kind = (min(len(met), 2), min(len(enough), 2))
            found[kind] = found.get(kind, 0) + 1
        self.assertEqual(set(found), {(1, 0), (1, 1), (1, 2), (2, 1), (2, 2)})
        self.assertGreater(min(found.values()), 3)

    def test_rows_up_to_a_length(self):
        for rule, edits, k, _, _ in oracle.questions(42, 120):
            paper = meetings(rule, edits, k)
            met = [set(keys) for keys, _ in paper.met]
            enough = [set(keys) for keys, _ in paper.enough]
            for columns in oracle.rows_of_columns(edits, 4 if len(edits.rows) < 3 else 2):
                if oracle.is_near(edits, k, columns):
                    got = oracle.shared(rule, edits, columns)
                    self.assertTrue([keys for keys in met if keys <= got])
                    self.assertFalse([keys for keys in enough if not keys & got])

    def test_each_list_by_the_other_one(self):
        for rule, edits, k, _, _ in oracle.questions(43, 150):
            paper = meetings(rule, edits, k)
            met, enough = [[keys for keys, _ in pairs] for pairs in (paper.met, paper.enough)]
            self.assertEqual(oracle.hitting_sets(met, rule.all_keys), enough)
            self.assertEqual(oracle.hitting_sets(enough, rule.all_keys), met)

    def test_as_sure_tells(self):
        for rule, edits, k, _, wanted in oracle.questions(44, 150):
            enough = [set(keys) for keys, _ in meetings(rule, edits, k).enough]
            wanted = rule.all_keys if wanted is None else wanted
            is_enough = [keys for keys in enough if keys <= set(wanted)] != []
            self.assertIs(isinstance(sure(rule, edits, k, wanted=wanted), Sure), is_enough)

    def test_near_texts_that_miss_one_another(self):
        for rule, k in ((Rule(heads("ab", 1)), 1), (Rule(pieces("ab", 2)), 1), (Rule(sized("ab", 2)), None)):
            paper = meetings(rule, PLAIN, k)
            self.assertEqual(([keys for keys, _ in paper.met], paper.enough), ([()], []))
            self.assertTrue(is_bad(rule, PLAIN, k, paper.met[0][1]))
            self.assertEqual(least_count(rule, PLAIN, k), 0)
            self.assertTrue(is_meetings(rule, PLAIN, k, paper))
        bare = Rule(Machine("ab", [[(0, []), (0, [])]], [[]]))
        paper = meetings(bare, PLAIN, 0)
        self.assertEqual(([keys for keys, _ in paper.met], paper.enough), ([()], []))

    def test_plain_ones(self):
        paper = meetings(BOTH, PLAIN, 0)
        self.assertEqual([keys for keys, _ in paper.met], [("f", "n0"), ("fa", "n1"), ("fb", "n1")])
        self.assertEqual([keys for keys, _ in paper.enough],
                         [("f", "fa", "fb"), ("f", "n1"), ("fa", "fb", "n0"), ("n0", "n1")])
        self.assertEqual(least_count(BOTH, PLAIN, 0), 2)
        paper = meetings(BOTH, PLAIN, 1)
        self.assertEqual([keys for keys, _ in paper.met], [("f", "n0"), ("n1",)])
        self.assertEqual([keys for keys, _ in paper.enough], [("f", "n1"), ("n0", "n1")])
        self.assertEqual(least_count(BOTH, PLAIN, 1), 1)
        self.assertEqual([keys for keys, _ in meetings(BOTH, PLAIN, 8).met], [("f", "n0"), ("n1",)])
        self.assertEqual([keys for keys, _ in meetings(BOTH, PLAIN, 9).met], [()])
        self.assertEqual([least_count(BOTH, PLAIN, k) for k in (8, 9, 10 ** 40, None)], [1, 0, 0, 0])

    def test_kinds(self):
        paper = meetings(BOTH, PLAIN, 0)
        self.assertEqual((type(paper.met), type(paper.enough)), (list, list))
        self.assertEqual({(type(pair), len(pair), type(pair[0])) for pair in paper.met + paper.enough},
                         {(tuple, 2, tuple)})
        self.assertEqual({type(columns) for _, columns in paper.met}, {tuple})
        self.assertEqual({type(tree) for _, tree in paper.enough}, {tuple})
        self.assertIs(type(least_count(BOTH, PLAIN, 0)), int)

    def test_greatest_machines(self):
        names = ["k%02d" % at for at in range(12)]
        for seed in (0, 1):
            left = Machine("abcd", *oracle.parts_of_machine("abcd", 16, names, seed, 0.2, 0.6))
            right = Machine("dcba", *oracle.parts_of_machine("dcba", 16, names, seed + 50, 0.2, 0.6))
            edits = oracle.some_edits(random.Random(seed), "abcd", 24)
            for rule in (Rule(left), Rule(left, right)):
                paper = meetings(rule, edits, 1)
                met, enough = [[keys for keys, _ in pairs] for pairs in (paper.met, paper.enough)]
                self.assertEqual(oracle.hitting_sets(met, rule.all_keys), enough)
                self.assertTrue(is_right(rule, edits, 1, Meetings(paper.met, paper.enough[:4]), met, enough[:4]))
                self.assertTrue(is_meetings(rule, edits, 1, paper))

    def test_what_is_told_is_new(self):
        one, other = meetings(BOTH, PLAIN, 0), meetings(BOTH, PLAIN, 0)
        self.assertEqual((one.met, one.enough), (other.met, other.enough))
        one.met.clear()
        one.enough.append("more")
        again = meetings(BOTH, PLAIN, 0)
        self.assertEqual((again.met, again.enough), (other.met, other.enough))
        self.assertTrue(is_meetings(BOTH, PLAIN, 0, again))

    def test_equal_calls(self):
        for rule, edits, k, _, _ in oracle.questions(45, 60):
            one = meetings(rule, edits, k)
            other = meetings(Rule(rule.left, rule.right), Edits(edits.signs, edits.rows), k)
            self.assertEqual((one.met, one.enough), (other.met, other.enough))


class MeetingsJudged(unittest.TestCase):
    def check(self, rule, edits, k, met, enough, told):
        self.assertIs(is_meetings(rule, edits, k, Meetings(met, enough)), told, msg=repr((met, enough)))

    def test_wrong_lists(self):
        right = meetings(BOTH, PLAIN, 0)
        met, enough = right.met, right.enough
        self.check(BOTH, PLAIN, 0, met, enough, True)
        self.check(BOTH, PLAIN, 0, tuple([list(pair) for pair in met]), tuple([list(pair) for pair in enough]), True)
        for at in range(len(met)):
            self.check(BOTH, PLAIN, 0, met[:at] + met[at + 1:], enough, False)
            self.check(BOTH, PLAIN, 0, met[:at] + met[at:at + 1] + met[at:], enough, False)
            self.check(BOTH, PLAIN, 0, met[at:] + met[:at], enough, at == 0)
            self.check(BOTH, PLAIN, 0, met[at:at + 1], enough, False)
        for at in range(len(enough)):
            self.check(BOTH, PLAIN, 0, met, enough[:at] + enough[at + 1:], False)
            self.check(BOTH, PLAIN, 0, met, enough[:at] + enough[at:at + 1] + enough[at:], False)
            self.check(BOTH, PLAIN, 0, met, enough[at:] + enough[:at], at == 0)
            self.check(BOTH, PLAIN, 0, met, enough[at:at + 1], False)
        for pairs in (met[::-1], []):
            self.check(BOTH, PLAIN, 0, pairs, enough, False)
        for pairs in (enough[::-1], []):
            self.check(BOTH, PLAIN, 0, met, pairs, False)

    def test_wrong_sets(self):
        right = meetings(BOTH, PLAIN, 0)
        for at, (keys, columns) in enumerate(right.met):
            for wrong in (keys[::-1], keys + keys[-1:], keys[:1] + keys, keys[:1], keys[1:], (), keys + ("z",),
                          ("?",) + keys,
                          keys[:1] + ("n2",), ("f",), ("f", "fa", "fb", "n0", "n1"), ("", "f")):
                if wrong != keys:
                    pairs = right.met[:at] + [(wrong, columns)] + right.met[at + 1:]
                    self.check(BOTH, PLAIN, 0, pairs, right.enough, False)
                    self.check(BOTH, PLAIN, 0, sorted(pairs), right.enough, False)
            self.check(BOTH, PLAIN, 0, right.met[:at] + [(list(keys), list(columns))] + right.met[at + 1:],
                       right.enough, True)
        for at, (keys, tree) in enumerate(right.enough):
            for wrong in (keys[::-1], keys + keys[-1:], keys[:1] + keys, keys[:1], keys[1:], (), keys + ("z",),
                          ("?",) + keys,
                          ("f",), ("f", "fa", "fb", "n0", "n1"), ("", "f")):
                if wrong != keys:
                    pairs = right.enough[:at] + [(wrong, tree)] + right.enough[at + 1:]
                    self.check(BOTH, PLAIN, 0, right.met, pairs, False)
                    self.check(BOTH, PLAIN, 0, right.met, sorted(pairs), False)
            lists = [(list(keys), oracle.as_lists(tree))]
            self.check(BOTH, PLAIN, 0, right.met, right.enough[:at] + lists + right.enough[at + 1:], True)

    def test_a_set_that_is_met_but_no_least_one(self):
        right = meetings(BOTH, PLAIN, 1)
        self.assertEqual([keys for keys, _ in right.met], [("f", "n0"), ("n1",)])
        for keys, columns in ((("fa", "n1"), ("a",)), (("fb", "n1"), ("b", "a"))):
            self.assertEqual(oracle.shared(BOTH, PLAIN, columns), set(keys))
            self.check(BOTH, PLAIN, 1, sorted(right.met + [(keys, columns)]), right.enough, False)
        bare = meetings(BOTH, PLAIN, 9)
        self.check(BOTH, PLAIN, 9, bare.met, bare.enough, True)
        self.check(BOTH, PLAIN, 9, bare.met + [(("n1",), (0,))], bare.enough, False)

    def test_wrong_columns(self):
        edits = Edits("ab", [("a", "b", 1), ("b", "a", 2), ("", "ab", 0)])
        rule = Rule(beside(pieces("ab", 1), tails("ab", 1)))
        for k in (0, 1, 2):
            right = meetings(rule, edits, k)
            for at, (keys, _) in enumerate(right.met):
                for columns in oracle.rows_of_columns(edits, 3):
                    told = oracle.is_near(edits, k, columns) and oracle.shared(rule, edits, columns) == set(keys)
                    self.check(rule, edits, k, right.met[:at] + [(keys, columns)] + right.met[at + 1:], right.enough,
                               told)

    def test_columns_and_trees_exchanged(self):
        for rule, edits, k, _, _ in oracle.questions(46, 120):
            right = meetings(rule, edits, k)
            for at in range(1, len(right.met)):
                (one, row), (other, other_row) = right.met[at - 1:at + 1]
                pairs = right.met[:at - 1] + [(one, other_row), (other, row)] + right.met[at + 1:]
                self.check(rule, edits, k, pairs, right.enough, False)
            for at in range(1, len(right.enough)):
                (one, tree), (other, other_tree) = right.enough[at - 1:at + 1]
                pairs = right.enough[:at - 1] + [(one, other_tree), (other, tree)] + right.enough[at + 1:]
                told = (oracle.is_right_tree(rule, edits, k, other_tree, (), one)
                        and oracle.is_right_tree(rule, edits, k, tree, (), other))
                self.check(rule, edits, k, right.met, pairs, told)

    def test_wrong_trees(self):
        found = {True: 0, False: 0}
        dice = random.Random(47)
        for rule, edits, k, _, _ in oracle.questions(47, 150):
            right = meetings(rule, edits, k)
            for at, (keys, tree) in enumerate(right.enough):
                for wrong in oracle.changed_trees(dice, rule, (), tree, 8):
                    told = oracle.is_right_tree(rule, edits, k, wrong, (), keys)
                    found[told] += 1
                    pairs = right.enough[:at] + [(keys, wrong)] + right.enough[at + 1:]
                    self.check(rule, edits, k, right.met, pairs, told)
        self.assertGreater(min(found.values()), 100)

    def test_other_bounds(self):
        papers = {k: meetings(BOTH, PLAIN, k) for k in (0, 1, 9)}
        for k in papers:
            for other in papers:
                self.check(BOTH, PLAIN, k, papers[other].met, papers[other].enough, k == other)

    def test_nothing_missed_though_there_is_more(self):
        # All that is told is right, but not all there is.
        rule = Rule(beside(heads("ab", 0), sized("ab", 0)))
        paper = meetings(rule, PLAIN, None)
        self.assertEqual(([keys for keys, _ in paper.met], [keys for keys, _ in paper.enough]),
                         ([("f", "n0")], [("f",), ("n0",)]))
        self.check(rule, PLAIN, None, paper.met, paper.enough[:1], False)
        self.check(rule, PLAIN, None, [], [], False)
        self.check(rule, PLAIN, None, [], [((), LEAF)], False)
        self.check(rule, PLAIN, None, [((), ())], [], False)

    def test_paper_copies(self):
        right = meetings(BOTH, PLAIN, 0)
        met = [[list(keys), list(columns)] for keys, columns in right.met]
        enough = [[list(keys), tree] for keys, tree in right.enough]
        paper = Meetings(met, enough)
        self.assertEqual((paper.met, paper.enough), (right.met, right.enough))
        self.assertEqual({type(thing) for pair in paper.met for thing in (pair, *pair)}, {tuple})
        self.assertEqual({type(pair) for pair in paper.enough}, {tuple})
        met[0][0].append("z")
        met[1][1].append("z")
        met.append([[], []])
        enough[0][0].clear()
        enough[1][1] = None
        enough.clear()
        self.assertEqual((paper.met, paper.enough), (right.met, right.enough))
        self.assertTrue(is_meetings(BOTH, PLAIN, 0, paper))
        paper = Meetings(enough=(), met=())
        self.assertEqual((paper.met, paper.enough), ([], []))


class CoversTold(unittest.TestCase):
    def test_covers_or_bad(self):
        found = {"bad": 0, 0: 0, 1: 0, 2: 0}
        dice = random.Random(48)
        for rule, edits, k, _, _ in oracle.questions(48, 400):
            one = [key for key in dice.sample(rule.all_keys, len(rule.all_keys)) if dice.random() < 0.6]
            other = [key for key in dice.sample(rule.all_keys, len(rule.all_keys)) if dice.random() < 0.5]
            due = sorted(set(other) - set(one))
            weights = {key: oracle.least_weight(rule, edits, (key,), one) for key in due}
            missed = [key for key in due if weights[key] is not None and (k is None or weights[key] <= k)]
            told = covers(rule, edits, k, one, tuple(other))
            if missed:
                self.assertIsInstance(told, Bad)
                self.assertIs(type(told.columns), tuple)
                self.assertTrue([key for key in due if oracle.is_bad(rule, edits, k, told.columns, (key,), one)])
                found["bad"] += 1
            else:
                self.assertIsInstance(told, Covers)
                self.assertEqual([key for key, _ in told.trees], due)
                self.assertEqual({type(pair) for pair in told.trees} | {tuple}, {tuple})
                self.assertIs(type(told.trees), list)
                for key, tree in told.trees:
                    self.assertTrue(oracle.is_right_tree(rule, edits, k, tree, (key,), one))
                    self.assertTrue(is_sure(rule, edits, k, tree, given=(key,), wanted=one))
                self.assertIs(is_covers(rule, edits, k, one, other, told), True)
                found[min(len(due), 2)] += 1
        self.assertGreater(min(found.values()), 5)

    def test_plain_ones(self):
        for one, other, k, told in ((["fa", "fb"], ["n1"], 0, Covers), (["fa", "fb"], ["n1"], 1, Bad),
                                    (["n1"], ["fa", "fb"], 1, Covers), (["n1"], ["fa", "fb", "f"], 1, Bad),
                                    (["n1", "n0"], ["fa", "fb", "f"], None, Covers), ([], [], None, Covers),
                                    ([], ["f"], 0, Bad), (["f"], [], 0, Covers), (["f"], ["f"], None, Covers),
                                    (["f", "fa"], ["fa"], None, Covers), (["fa"], ["f", "fa"], 0, Bad),
                                    (["f", "fa", "fb"], ["fb", "f"], None, Covers), (["n0"], ["f"], None, Covers),
                                    (["f"], ["n0"], None, Covers)):
            self.assertIsInstance(covers(BOTH, PLAIN, k, one, other), told, msg=repr((one, other, k)))

    def test_empty_equal_and_within(self):
        keys = list(BOTH.all_keys)
        for k in (0, 9, None):
            for one, other in ((keys, keys), (keys, keys[::-1]), (keys, keys[1:3]), (keys[:2], keys[:1]), (keys, []),
                               ([], [])):
                told = covers(BOTH, PLAIN, k, one, other)
                self.assertIsInstance(told, Covers)
                self.assertEqual(told.trees, [])
                self.assertTrue(is_covers(BOTH, PLAIN, k, one, other, told))
                self.assertFalse(is_covers(BOTH, PLAIN, k, one, other, Covers([("f", LEAF)])))
            self.assertIsInstance(covers(BOTH, PLAIN, k, [], keys), Bad)

    def test_two_machines_side_by_side(self):
        # What the keys of one machine find, those of the other find, too, for texts of the same kind.
        edits = Edits.plain("ab", 0, 0, 0)
        rule = Rule(beside(heads("ab", 1), sized("ab", 1)))
        self.assertIsInstance(covers(rule, edits, 0, ("n0", "n1"), ("f", "fa", "fb")), Covers)
        self.assertIsInstance(covers(rule, edits, 0, ("f", "fa", "fb"), ("n0", "n1")), Bad)

    def test_more_than_one_wanted_key(self):
        rule = Rule(beside(pieces("ab", 1), heads("ab", 1)))
        told = covers(rule, PLAIN, 0, ["pb", "pa"], ["fb", "fa"])
        self.assertEqual([key for key, _ in told.trees], ["fa", "fb"])
        self.assertTrue(is_covers(rule, PLAIN, 0, ["pa", "pb"], ["fa", "fb"], told))
        self.assertTrue(is_covers(rule, PLAIN, 0, ("pb", "pa"), ("fb", "fa"), told))

    def test_what_is_told_is_new(self):
        one, other = (covers(BOTH, PLAIN, 0, ["fa", "fb"], ["n1"]) for _ in range(2))
        self.assertEqual(one.trees, other.trees)
        one.trees.clear()
        self.assertEqual(covers(BOTH, PLAIN, 0, ["fa", "fb"], ["n1"]).trees, other.trees)
        self.assertEqual(covers(Rule(BOTH.left), Edits("ab", PLAIN.rows), 0, ("fa", "fb"), ("n1",)).trees, other.trees)


class CoversJudged(unittest.TestCase):
    def test_wrong_papers(self):
        rule = Rule(beside(beside(heads("ab", 1), sized("ab", 1)), tails("ab", 0)))
        one, other = ["n0", "l"], ["fb", "fa", "l", "f"]
        trees = covers(rule, PLAIN, 1, one, other).trees
        self.assertEqual([key for key, _ in trees], ["f", "fa", "fb"])

        def check(pairs, told):
            self.assertIs(is_covers(rule, PLAIN, 1, one, other, Covers(pairs)), told, msg=repr(pairs))

        check(trees, True)
        check(tuple([list(pair) for pair in trees]), True)
        check([(key, oracle.as_lists(tree)) for key, tree in trees], True)
        check([], False)
        check(trees[::-1], False)
        check(trees + [("l", trees[0][1])], False)
        check(trees + [("n1", trees[0][1])], False)
        for at, (key, tree) in enumerate(trees):
            check(trees[:at] + trees[at + 1:], False)
            check(trees[:at] + [(key, tree)] + trees[at:], False)
            check(trees[:at] + [(key, LEAF)] + trees[at + 1:], False)
            check(trees[:at] + [(key, ("leaf", ()))] + trees[at + 1:], False)
            check(trees[:at] + [("n1", tree)] + trees[at + 1:], False)
            check(trees[at:] + trees[:at], at == 0)

    def test_trees_with_one_thing_changed(self):
        found = {True: 0, False: 0}
        dice = random.Random(49)
        for rule, edits, k, _, _ in oracle.questions(49, 300):
            one = [key for key in rule.all_keys if dice.random() < 0.6]
            told = covers(rule, edits, k, one, rule.all_keys)
            if isinstance(told, Covers):
                for at, (key, tree) in enumerate(told.trees):
                    for wrong in oracle.changed_trees(dice, rule, (key,), tree, 10):
                        expected = oracle.is_right_tree(rule, edits, k, wrong, (key,), one)
                        found[expected] += 1
                        paper = Covers(told.trees[:at] + [(key, wrong)] + told.trees[at + 1:])
                        self.assertIs(is_covers(rule, edits, k, one, rule.all_keys, paper), expected)
        self.assertGreater(min(found.values()), 100)

    def test_no_paper_where_something_is_missed(self):
        trees = covers(BOTH, PLAIN, 0, ["fa", "fb"], ["n1"]).trees
        self.assertTrue(is_covers(BOTH, PLAIN, 0, ["fa", "fb"], ["n1"], Covers(trees)))
        for k in (1, None):
            self.assertFalse(is_covers(BOTH, PLAIN, k, ["fa", "fb"], ["n1"], Covers(trees)))
        self.assertFalse(is_covers(BOTH, PLAIN, 0, ["fa", "fb"], ["n0"], Covers(trees)))
        self.assertFalse(is_covers(BOTH, PLAIN, 0, ["fa"], ["n1"], Covers(trees)))

    def test_paper_copies(self):
        trees = [["n1", LEAF]]
        paper = Covers(trees)
        trees[0][0] = "f"
        trees.append(["f", LEAF])
        self.assertEqual(paper.trees, [("n1", LEAF)])
        self.assertEqual(Covers(trees=()).trees, [])


if __name__ == "__main__":
    unittest.main()
