"""[100] to [103]: nevermiss/onetext.py."""

import itertools
import random
import unittest

import oracle
import oracle_near
from nevermiss import parts
from nevermiss.edits import Edits
from nevermiss.errors import BadBound, BadSign, Unlike
from nevermiss.machines import Machine
from nevermiss.onetext import Miss, fence_of, is_fence, lacks, mended, miss_of, near_sets, risks
from nevermiss.rules import Rule
from nevermiss.sure import lowest
from nevermiss.tables import Table

GREAT = 10 ** 30
EDITS = Edits("ab", [("a", "b", 2), ("b", "", 5)])
RULE = Rule(parts.heads("ab", 1))
# The keys are given sooner or later, and the machines are not the same.
TWO = Rule(parts.renamed(parts.tails("ab", 1), {"la": "fa", "lb": "fb", "l": "f"}), parts.heads("ba", 1))


def some_texts(seed, many):
    """Tuples (rule, edits, k, text), the same ones each time."""
    dice = random.Random(seed)
    for rule, edits, k, _, _ in oracle.questions(seed, many):
        if dice.random() < 0.3:
            # Some texts have no key at all.
            rule = Rule(rule.left, parts.holding(rule.right, [key for key in rule.all_keys if dice.random() < 0.5]))
        yield rule, edits, k, "".join(dice.choice(rule.signs) for _ in range(dice.choice([0, 1, 2, 3, 4, 6, 9])))


def bounds_of(weight):
    """Bounds about a weight at which a text is missed."""
    if weight is None:
        return [0, 3, 10 ** 40, None]
    return sorted({max(0, weight - 1), weight, weight + 1, 0}) + [10 ** 40, None]


def is_missed(weight, k):
    return weight is not None and (k is None or weight <= k)


class Misses(unittest.TestCase):
    def check(self, rule, edits, text, weight):
        paper = miss_of(rule, edits, text)
        self.assertIs(type(paper), Miss)
        self.assertEqual(paper.weight, weight)
        if weight is None:
            self.assertIsNone(paper.columns)
        else:
            self.assertIs(type(paper.columns), tuple)
            x, y, weighs = oracle.tell(edits, paper.columns)
            self.assertEqual((x, weighs), (text, weight))
            self.assertFalse(oracle.keys(rule.left, x) & oracle.keys(rule.right, y))

    def test_least_weights(self):
        found = {}
        for rule, edits, _, text in some_texts(1, 700):
            weight = oracle_near.least_miss(rule, edits, text)
            self.check(rule, edits, text, weight)
            found[weight] = found.get(weight, 0) + 1
        self.assertGreater(min(found[None], found[0], found[1]), 30)
        self.assertGreater(len(found), 8)

    def test_against_all_rows_of_columns(self):
        missed = 0
        for rule, edits, _, _ in some_texts(2, 150):
            most = 4 if len(edits.rows) < 3 else 3
            least = {}
            for columns in oracle.rows_of_columns(edits, most):
                x, y, weight = oracle.tell(edits, columns)
                if not oracle.keys(rule.left, x) & oracle.keys(rule.right, y):
                    least[x] = min(weight, least.get(x, weight))
            for text in oracle.texts(rule.signs, 2):
                told = miss_of(rule, edits, text).weight
                if text in least:
                    self.assertIsNotNone(told)
                    self.assertLessEqual(told, least[text])
                    missed += 1
        self.assertGreater(missed, 200)

    def test_the_least_of_all_texts_is_the_lowest(self):
        compared = 0
        for rule, edits, _, _ in some_texts(3, 200):
            paper = lowest(rule, edits)
            weights = [miss_of(rule, edits, text).weight for text in oracle.texts(rule.signs, 3)]
            for weight in weights:
                self.assertTrue(weight is None or (paper.weight is not None and weight >= paper.weight))
            if paper.weight is not None:
                x = oracle.tell(edits, paper.columns)[0]
                self.check(rule, edits, x, paper.weight)
                compared += 1
        self.assertGreater(compared, 80)

    def test_rules_of_two_machines(self):
        # The last sign of the text, the first one of the near one.
        for text, weight in (("ab", 0), ("aba", 2), ("", None), ("ba", 0), ("bb", 10), ("bbb", 15), ("a", 2)):
            self.check(TWO, EDITS, text, weight)
        edits = Edits("ba", [("", "a", 3)])
        for text, weight in (("ab", 0), ("b", 3), ("a", None), ("", 3), ("bb", 3)):
            self.check(TWO, edits, text, weight)

    def test_edits_that_put_in_without_a_weight(self):
        edits = Edits("ab", [("", "a", 0), ("a", "", 0)])
        for text, weight in (("b", 0), ("a", 0), ("", 0), ("aaa", 0)):
            self.check(RULE, edits, text, weight)
        self.check(Rule(parts.counted("ab", "b", 3)), edits, "abab", None)
        # Each third sign that is put in does not count.
        self.check(Rule(parts.counted("ab", "a", 3)), Edits("ab", [("", "aaa", 0)]), "abab", None)
        self.check(Rule(parts.counted("ab", "a", 9)), Edits("ab", [("", "aaa", 1)]), "abab", 1)

    def test_great_weights(self):
        right = Machine("a", [[(min(state + 1, 15), [])] for state in range(16)], [["e"]] * 15 + [["w"]])
        left = Machine("a", [[(0, [])]], [["e"]])
        for text, rows, weight in (("", [("", "a", GREAT)], 15 * GREAT), ("a" * 10, [("", "a", GREAT)], 5 * GREAT),
                                   ("a" * 30, [("", "a", GREAT)], 0), ("a" * 14, [("a", "", GREAT)], None),
                                   ("a" * 30, [("a", "", GREAT)], 0),
                                   ("a" * 7, [("aa", "aaa", GREAT - 1), ("", "aa", GREAT)], 4 * GREAT)):
            self.check(Rule(left, right), Edits("a", rows), text, weight)

    def test_ways_through_many_spots(self):
        # Each sign that stays leads astray: each spot is come to by an edit of the greatest weight.
        right = Machine("ab", [[(16 if state == 16 else 15, ["e"]), ((state + 1) % 15, [])] for state in range(15)]
                        + [[(15, []), (15, [])]], [["e"]] * 7 + [["w"]] + [["e"]] * 8)
        rule = Rule(Machine("ab", [[(0, []), (0, [])]], [["e"]]), right)
        edits = Edits("ab", [("a", "b", GREAT), ("", "b", GREAT)])
        for text, weight in (("a" * 7, 7), ("a" * 30, 37), ("", 7), ("a" * 8, 22)):
            self.check(rule, edits, text, weight * GREAT)
        # From each place of the text on, all states are gone through until its next sign may be exchanged.
        rows = [[(state, ["e"]), (min(state + 1, 15), []), (0, [] if state == 15 else ["e"])] for state in range(16)]
        rule = Rule(Machine("abc", [[(0, [])] * 3], [["e"]]), Machine("abc", rows, [[]] + [["e"]] * 15))
        edits = Edits("abc", [("a", "c", GREAT), ("", "b", GREAT)])
        for many in (0, 1, 7, 30):
            self.check(rule, edits, "a" * many, many * 16 * GREAT)

    def test_made_by_callers(self):
        columns = ["a", 0]
        paper = Miss(3, columns)
        columns.append(1)
        self.assertEqual((paper.weight, paper.columns), (3, ("a", 0)))
        paper = Miss(columns=None, weight=None)
        self.assertEqual((paper.weight, paper.columns), (None, None))


class Fences(unittest.TestCase):
    def test_told_fences(self):
        found = {True: 0, False: 0}
        for rule, edits, k, text in some_texts(4, 350):
            weight = oracle_near.least_miss(rule, edits, text)
            for bound in (k, *bounds_of(weight)):
                fence = fence_of(rule, edits, text, bound)
                self.assertIs(fence is None, is_missed(weight, bound))
                found[fence is None] += 1
                if fence is not None:
                    self.assertIs(type(fence), dict)
                    self.assertTrue(oracle_near.is_fence(rule, edits, text, bound, fence))
                    self.assertIs(is_fence(rule, edits, text, bound, fence), True)
        self.assertGreater(min(found.values()), 400)

    def test_fences_with_one_thing_changed(self):
        dice = random.Random(5)
        found = {True: 0, False: 0}
        for rule, edits, k, text in some_texts(5, 400):
            weight = oracle_near.least_miss(rule, edits, text)
            k = dice.choice(bounds_of(weight)[:-1] + [k])
            fence = fence_of(rule, edits, text, k) or {(0, 0): 0}
            pairs = list(itertools.product(range(len(text) + 1), range(len(rule.right.rows))))
            for places in oracle_near.changed_places(dice, fence, pairs, 15):
                right = oracle_near.is_fence(rule, edits, text, k, places)
                self.assertIs(is_fence(rule, edits, text, k, places), right)
                found[right] += 1
                self.assertFalse(right and is_missed(weight, k))
        self.assertGreater(min(found.values()), 800)

    def test_what_a_fence_needs(self):
        fence = fence_of(RULE, EDITS, "ab", 1)
        self.assertEqual(miss_of(RULE, EDITS, "ab").weight, 2)
        self.assertTrue(is_fence(RULE, EDITS, "ab", 1, fence))
        for k in (2, 3, 10 ** 40, None):
            self.assertFalse(is_fence(RULE, EDITS, "ab", k, fence))
            self.assertIsNone(fence_of(RULE, EDITS, "ab", k))
        self.assertTrue(is_fence(RULE, EDITS, "ab", 0, fence))
        q = RULE.right.after("a")
        self.assertEqual(fence, {(0, 0): 0, (1, q): 0, (2, q): 0})
        for wrong in ({}, {(0, 0): 0}, {**fence, (0, 0): 1}, {**fence, (3, 0): 0}, {**fence, (0, 3): 0},
                      {**fence, (-1, 0): 0}, {**fence, (0, -1): 0}, {**fence, (1, 0): -1}, {(1, q): 0, (2, q): 0},
                      {**fence, (2, 0): 9}, {**fence, (2, q): 1}):
            self.assertFalse(is_fence(RULE, EDITS, "ab", 1, wrong), msg=wrong)
            self.assertFalse(oracle_near.is_fence(RULE, EDITS, "ab", 1, wrong))

    def test_no_bound(self):
        rule = Rule(parts.sized("ab", 9))
        edits = Edits.plain("ab", 0, 0, 0)
        self.assertIsNone(fence_of(rule, edits, "ab", None))
        edits = Edits("ab", [("a", "b", GREAT), ("ab", "ba", 0)])
        fence = fence_of(rule, edits, "abba", None)
        self.assertTrue(is_fence(rule, edits, "abba", None, fence))
        self.assertTrue(is_fence(rule, edits, "abba", 10 ** 40, fence))
        self.assertTrue(oracle_near.is_fence(rule, edits, "abba", None, fence))
        # With a bound, numbers that are too great for it need no spot behind them.
        within = fence_of(rule, edits, "abba", 0)
        self.assertFalse(is_fence(rule, edits, "abba", None, within) and len(within) < len(fence))

    def test_keys_on_the_way_bar(self):
        # The key of each sign a is given at once.
        rule = Rule(parts.pieces("ab", 1))
        self.assertEqual(fence_of(rule, Edits("ab", []), "a", None), {(0, 0): 0})
        self.assertEqual(fence_of(rule, Edits("ab", [("", "a", 0)]), "a", None), {(0, 0): 0})
        self.assertEqual(len(fence_of(rule, Edits("ab", [("", "b", 0)]), "a", None)), 2)
        self.assertIsNone(fence_of(rule, Edits("ab", [("a", "", 0)]), "a", 0))

    def test_long_texts(self):
        dice = random.Random(6)
        for rule, edits, k, _ in some_texts(6, 60):
            text = "".join(dice.choice(rule.signs) for _ in range(30))
            weight = oracle_near.least_miss(rule, edits, text)
            self.assertEqual(miss_of(rule, edits, text).weight, weight)
            for bound in bounds_of(weight):
                fence = fence_of(rule, edits, text, bound)
                self.assertIs(fence is None, is_missed(weight, bound))
                if fence is not None:
                    self.assertTrue(is_fence(rule, edits, text, bound, fence))

    def test_a_new_dict_each_time(self):
        one = fence_of(RULE, EDITS, "ab", 1)
        kept = dict(one)
        one.clear()
        self.assertEqual(fence_of(RULE, EDITS, "ab", 1), kept)


class Sets(unittest.TestCase):
    def check_near_sets(self, rule, edits, text, k, told):
        near = oracle_near.near_ones(rule, edits, text, k)
        self.assertIs(type(told), list)
        self.assertEqual([keys for keys, columns in told], sorted(oracle.least_sets(list(near))))
        for pair in told:
            self.assertIs(type(pair), tuple)
            keys, columns = pair
            self.assertIs(type(columns), tuple)
            x, y, weight = oracle.tell(edits, columns)
            self.assertEqual(x, text)
            self.assertTrue(k is None or weight <= k)
            self.assertEqual(tuple(sorted(oracle.keys(rule.right, y))), keys)

    def test_near_sets(self):
        found = {0: 0, 1: 0, 2: 0}
        for rule, edits, k, text in some_texts(7, 700):
            told = near_sets(rule, edits, text, k)
            self.check_near_sets(rule, edits, text, k, told)
            found[0 if told[0][0] == () else min(2, len(told))] += 1
        self.assertGreater(min(found.values()), 60)

    def test_near_sets_against_all_rows_of_columns(self):
        for rule, edits, k, text in some_texts(8, 120):
            sets = [set(keys) for keys, columns in near_sets(rule, edits, text[:3], k)]
            for keys, weight in oracle_near.told_near_ones(rule, edits, text[:3], 4 if len(edits.rows) < 3 else 3):
                if k is None or weight <= k:
                    self.assertTrue(any([one <= keys for one in sets]))

    def test_lacks(self):
        found = {"none": 0, "not missed": 0, "some": 0, "many": 0}
        for rule, edits, k, text in some_texts(9, 900):
            for bound in (k, 1):
                told = lacks(rule, edits, text, bound)
                self.assertIs(type(told), list)
                self.assertEqual(told, oracle_near.lacks(rule, edits, text, bound))
                found["none" if not told else "not missed" if told == [()] else
                      "some" if len(told) == 1 else "many"] += 1
        self.assertGreater(min(found.values()), 25)

    def test_what_lacks_is_enough(self):
        mended_ones = 0
        for rule, edits, k, text in some_texts(10, 150):
            own = oracle.keys(rule.left, text)
            for keys in lacks(rule, edits, text, k):
                for got, weight in oracle_near.told_near_ones(rule, edits, text, 3):
                    if k is None or weight <= k:
                        self.assertTrue(got & (own | set(keys)))
                        mended_ones += 1
        self.assertGreater(mended_ones, 200)

    def test_edges(self):
        silent = Machine("ab", [[(0, []), (0, [])]], [[]])
        self.assertEqual(near_sets(Rule(silent), EDITS, "ab", None), [((), ("a", "b"))])
        self.assertEqual(lacks(Rule(silent), EDITS, "ab", 0), [])
        # Near ones without a key that the left machine has; it gives the text keys that mean nothing here.
        self.assertEqual(lacks(Rule(parts.heads("ab", 1), silent), EDITS, "ab", 0), [])
        self.assertEqual(lacks(Rule(silent, parts.heads("ab", 1)), EDITS, "ab", 1), [("fa",)])
        self.assertEqual(lacks(Rule(silent, parts.heads("ab", 1)), EDITS, "ab", 2), [("fa", "fb")])
        self.assertEqual(lacks(RULE, EDITS, "ab", 1), [()])
        self.assertEqual(near_sets(RULE, EDITS, "", 9), [(("f",), ())])
        rule = Rule(silent, parts.beside(parts.heads("ab", 1), parts.sized("ab", 1)))
        self.assertEqual(lacks(rule, EDITS, "a", 2), [("fa", "fb"), ("n1",)])
        self.assertEqual(lacks(rule, Edits("ab", [("a", "", 1)]), "a", 1),
                         [("f", "fa"), ("f", "n1"), ("fa", "n0"), ("n0", "n1")])

    def test_keys_that_all_near_ones_have(self):
        rule = Rule(parts.pieces("ab", 1))
        told = near_sets(rule, Edits.plain("ab", 1, 1, 1), "ab", 1)
        self.assertEqual([keys for keys, columns in told], [("pa",), ("pb",)])
        told = near_sets(rule, Edits.plain("ab", 1, 1, 1), "ab", 2)
        self.assertEqual([keys for keys, columns in told], [("pa",), ("pb",), ("short",)])
        told = near_sets(rule, Edits.plain("ab", 1, 1, 1), "ab", 0)
        self.assertEqual([keys for keys, columns in told], [("pa", "pb")])

    def test_many_keys(self):
        dice = random.Random(11)
        keys = ["k%d" % n for n in range(12)]
        for often in (0.05, 0.1, 0.2):
            for _ in range(4):
                rule = Rule(*[oracle.some_machine(dice, "ab", 16, keys, (often, 0.3)) for _ in range(2)])
                text = "".join(dice.choice("ab") for _ in range(20))
                edits = Edits.plain("ab", 1, 1, 1)
                self.check_near_sets(rule, edits, text, 2, near_sets(rule, edits, text, 2))
                self.assertEqual(lacks(rule, edits, text, 2), oracle_near.lacks(rule, edits, text, 2))

    def test_new_lists(self):
        near_sets(RULE, EDITS, "ab", 2).clear()
        lacks(RULE, EDITS, "ab", 2).clear()
        self.assertEqual([keys for keys, columns in near_sets(RULE, EDITS, "ab", 2)], [("fa",), ("fb",)])
        self.assertEqual(lacks(RULE, EDITS, "ab", 2), [("fb",)])

    def test_equal_calls(self):
        for rule, edits, k, text in some_texts(12, 60):
            again = Rule(rule.left, rule.right), Edits(edits.signs, edits.rows)
            self.assertEqual(near_sets(rule, edits, text, k), near_sets(*again, text, k))
            self.assertEqual(fence_of(rule, edits, text, k), fence_of(*again, text, k))
            one, other = miss_of(rule, edits, text), miss_of(*again, text)
            self.assertEqual((one.weight, one.columns), (other.weight, other.columns))


class Tables(unittest.TestCase):
    def test_against_each_text(self):
        dice = random.Random(13)
        found = {"risks": 0, "no risk": 0, "none": 0, "set": 0, "several": 0}
        for rule, edits, k, _ in some_texts(13, 350):
            names = dice.sample(["b", "a", "10", "9", "aa", "z"], dice.randint(0, 6))
            table = Table(dice.choice([rule.signs, rule.signs[::-1]]),
                          {name: "".join(dice.choice(rule.signs) for _ in range(dice.randint(0, 5)))
                           for name in names})
            weights = {name: oracle_near.least_miss(rule, edits, table[name]) for name in names}
            self.assertEqual(risks(table, rule, edits),
                             tuple(sorted([(weights[name], name) for name in names if weights[name] is not None])))
            told = mended(table, rule, edits, k)
            self.assertEqual(list(told), sorted([name for name in names if is_missed(weights[name], k)]))
            for name in told:
                sets = oracle_near.lacks(rule, edits, table[name], k)
                fewest = min(map(len, sets), default=None)
                first = min([keys for keys in sets if len(keys) == fewest], default=None)
                self.assertEqual(told[name], first)
                found["none" if first is None else "several" if len(sets) > 1 else "set"] += 1
            found["risks"] += len(risks(table, rule, edits))
            found["no risk"] += list(weights.values()).count(None)
        self.assertGreater(min(found.values()), 30)

    def test_order(self):
        table = Table("ab", {"b": "ab", "a": "ab", "10": "b", "9": "", "c": "aab"})
        self.assertEqual(risks(table, RULE, EDITS), ((2, "a"), (2, "b"), (2, "c"), (5, "10")))
        self.assertEqual(mended(table, RULE, EDITS, 1), {})
        told = mended(table, RULE, EDITS, 2)
        self.assertEqual((told, list(told)), ({"a": ("fb",), "b": ("fb",), "c": ("fb",)}, ["a", "b", "c"]))
        self.assertEqual(mended(table, RULE, EDITS, None)["10"], ("f",))
        self.assertEqual(list(mended(table, RULE, EDITS, None)), ["10", "a", "b", "c"])

    def test_fewest_keys(self):
        silent = Machine("ab", [[(0, []), (0, [])]], [[]])
        table = Table("ab", {"one": "a", "two": ""})
        rule = Rule(silent, parts.beside(parts.heads("ab", 1), parts.sized("ab", 1)))
        # The set with two keys stands ahead of the one with one key.
        self.assertEqual(mended(table, rule, EDITS, 2), {"one": ("n1",), "two": ("f",)})
        self.assertEqual(mended(table, rule, Edits("ab", [("a", "", 1)]), 1), {"one": ("f", "fa"), "two": ("f",)})
        self.assertEqual(mended(table, Rule(silent), EDITS, 0), {"one": None, "two": None})

    def test_new_dicts(self):
        table = Table("ab", {"b": "ab"})
        mended(table, RULE, EDITS, 2).clear()
        self.assertEqual(mended(table, RULE, EDITS, 2), {"b": ("fb",)})


class Errors(unittest.TestCase):
    def setUp(self):
        self.table = Table("ab", {"one": "ab"})
        # Each takes a rule, edits, a text and a bound.
        self.calls = {"miss_of": lambda r, e, text, k: miss_of(r, e, text), "fence_of": fence_of,
                      "is_fence": lambda r, e, text, k: is_fence(r, e, text, k, {(9, 9): -1}),
                      "near_sets": near_sets, "lacks": lacks,
                      "risks": lambda r, e, text, k: risks(self.table, r, e),
                      "mended": lambda r, e, text, k: mended(self.table, r, e, k)}

    def test_unlike(self):
        for name, ask in self.calls.items():
            for signs in ("a", "abc", "ac"):
                rule, edits = Rule(parts.heads(signs, 1)), Edits(signs, [])
                for text, k in (("a", 1), ("?", 1), ("a", -1), ("?", True)):
                    self.assertRaises(Unlike, ask, rule, EDITS, text, k)
                    self.assertRaises(Unlike, ask, RULE, edits, text, k)
                if name in ("risks", "mended"):
                    self.assertRaises(Unlike, ask, rule, edits, "", 1)

    def test_bad_sign(self):
        for name in ("miss_of", "fence_of", "is_fence", "near_sets", "lacks"):
            for text, place in (("?", 0), ("abc", 2), ("aA?", 1), ("ab" * 20 + "c", 40)):
                for k in (1, None, -1, True):
                    with self.assertRaises(BadSign) as caught:
                        self.calls[name](RULE, EDITS, text, k)
                    self.assertEqual(caught.exception.place, place)

    def test_bad_bound(self):
        for name in ("fence_of", "is_fence", "near_sets", "lacks", "mended"):
            for k in (-1, 10 ** 40 + 1, True, False, "1", (), [2]):
                with self.assertRaises(BadBound) as caught:
                    self.calls[name](RULE, EDITS, "ab", k)
                self.assertEqual(caught.exception.bound, k)
                self.assertIs(type(caught.exception.bound), type(k))
            for k in (0, 1, 10 ** 40 - 1, 10 ** 40, None):
                self.calls[name](RULE, EDITS, "ab", k)

    def test_signs_in_another_order(self):
        for ask in self.calls.values():
            ask(RULE, Edits("ba", EDITS.rows), "ab", 2)
            ask(Rule(parts.heads("ba", 1)), EDITS, "ab", 2)

    def test_by_name(self):
        own = {"rule": RULE, "edits": EDITS}
        self.assertEqual(miss_of(text="ab", **own).weight, 2)
        fence = fence_of(k=1, text="ab", **own)
        self.assertTrue(is_fence(places=fence, k=1, text="ab", **own))
        self.assertEqual(len(near_sets(k=1, text="ab", **own)), 1)
        self.assertEqual(lacks(k=1, text="ab", **own), [()])
        self.assertEqual(risks(table=self.table, **own), ((2, "one"),))
        self.assertEqual(mended(k=1, table=self.table, **own), {})


if __name__ == "__main__":
    unittest.main()
