"""[81]: weights of two texts, and bars, of nevermiss/tables.py."""

import itertools
import random
import unittest

import oracle
import oracle_near
from nevermiss.edits import Edits
from nevermiss.errors import BadBound, BadSign
from nevermiss.tables import bar_of, columns_of, is_bar, weight_of

GREAT = 10 ** 30


def some_edits(seed, many):
    """Edits of all kinds, the same ones each time."""
    dice = random.Random(seed)
    for _ in range(many):
        signs = dice.choice(["a", "ba", "ba", "cab"])
        if dice.random() < 0.2:
            yield Edits.plain(signs, *[dice.choice([0, 1, 2, 3, 9, GREAT]) for _ in range(3)])
        else:
            yield oracle.some_edits(dice, signs, dice.randint(0, 8))


def some_pairs(dice, edits, many):
    """Pairs of texts; some of them are told by rows of columns."""
    for _ in range(many):
        if dice.random() < 0.5:
            row = [dice.choice(oracle.all_columns(edits)) for _ in range(dice.randint(0, 9))]
            yield oracle.tell(edits, row)[:2]
        else:
            yield tuple("".join(dice.choice(edits.signs) for _ in range(dice.randint(0, 9))) for _ in range(2))


class Weights(unittest.TestCase):
    def check(self, edits, x, y, weight):
        self.assertEqual(weight_of(edits, x, y), weight)
        columns = columns_of(edits, x, y)
        if weight is None:
            self.assertIsNone(columns)
        else:
            self.assertIs(type(columns), tuple)
            self.assertEqual(oracle.tell(edits, columns), (x, y, weight))

    def test_against_all_rows_of_columns(self):
        found = {None: 0}
        for edits in some_edits(1, 120):
            most = 4 if len(edits.signs) + len(edits.rows) < 8 else 3
            weights = oracle_near.told_weights(edits, most)
            # Each column has a sign on one of its sides at least.
            for x, y in itertools.product(oracle.texts(edits.signs, most), repeat=2):
                if len(x) + len(y) <= most:
                    self.check(edits, x, y, weights.get((x, y)))
                    found[weights.get((x, y))] = found.get(weights.get((x, y)), 0) + 1
            for (x, y), weight in list(weights.items())[::7]:
                told = weight_of(edits, x, y)
                self.assertLessEqual(told, weight)
                self.check(edits, x, y, told)
        self.assertGreater(found[None], 300)
        self.assertGreater(found[0], 300)
        self.assertGreater(len(found), 8)

    def test_longer_texts(self):
        dice = random.Random(2)
        found = {None: 0}
        for edits in some_edits(2, 250):
            for x, y in some_pairs(dice, edits, 6):
                weight = oracle_near.weight(edits, x, y)
                self.check(edits, x, y, weight)
                found[weight] = found.get(weight, 0) + 1
        self.assertGreater(found[None], 200)
        self.assertGreater(len(found), 20)

    def test_empty_texts(self):
        for edits in some_edits(3, 60):
            self.check(edits, "", "", 0)
            for text in oracle.texts(edits.signs, 2):
                self.check(edits, text, text, 0)
        edits = Edits("ab", [("", "a", 3), ("b", "", 4), ("", "aaa", 8), ("bb", "", 9)])
        for x, y, weight in (("", "a", 3), ("a", "", None), ("b", "", 4), ("bb", "", 8), ("", "aaaa", 11),
                             ("bab", "", None), ("bb", "aa", 14), ("", "b", None)):
            self.check(edits, x, y, weight)

    def test_weights_of_0(self):
        # Signs are put in and taken out without a weight, as often as it may be.
        edits = Edits("ab", [("", "a", 0), ("a", "", 0), ("b", "", 1), ("", "b", 0)])
        for x, y, weight in (("", "aaa", 0), ("aba", "a", 1), ("bab", "", 2), ("", "bab", 0), ("bb", "abab", 0)):
            self.check(edits, x, y, weight)

    def test_sides_that_overlap(self):
        edits = Edits("ab", [("aba", "bab", 1), ("ab", "ba", 5), ("baa", "aab", 2), ("b", "aa", 4), ("aab", "", 7)])
        for x, y, weight in (("ababa", "bab" + "ba", 1), ("ababa", "ab" + "bab", 1), ("abaaba", "babbab", 2),
                             ("ababa", "babba", 1), ("abab", "baba", 10), ("abab", "babb", 1),
                             ("aba", "aaaa", 4), ("ababa", "babab", 6), ("babab", "ababa", None), ("aab", "", 7)):
            self.check(edits, x, y, weight)
            self.assertEqual(oracle_near.weight(edits, x, y), weight)

    def test_edits_do_not_lie_over_one_another(self):
        # What an edit put in cannot be taken on by another one.
        edits = Edits("abc", [("a", "b", 1), ("b", "c", 1)])
        self.check(edits, "a", "c", None)
        self.check(edits, "ab", "bc", 2)

    def test_great_weights(self):
        edits = Edits.plain("ab", GREAT, GREAT - 1, 10 ** 29)
        for x, y, weight in (("a" * 30, "b" * 30, 3 * GREAT), ("", "ab" * 15, 30 * GREAT),
                             ("ab" * 15, "", 30 * GREAT - 30)):
            self.check(edits, x, y, weight)

    def test_one_way_alone(self):
        edits = Edits("ab", [("a", "", 3)])
        self.check(edits, "ab", "b", 3)
        self.check(edits, "b", "ab", None)
        self.check(edits.turned(), "b", "ab", 3)

    def test_long_texts(self):
        edits = Edits.plain("abcd", 2, 2, 3)
        dice = random.Random(4)
        for _ in range(8):
            x, y = ["".join(dice.choice("abcd") for _ in range(30)) for _ in range(2)]
            self.check(edits, x, y, oracle_near.weight(edits, x, y))
        self.check(edits, "ab" * 60, "ba" * 60, 4)


class Bars(unittest.TestCase):
    def test_told_bars(self):
        dice = random.Random(5)
        found = {True: 0, False: 0}
        for edits in some_edits(5, 250):
            for x, y in some_pairs(dice, edits, 3):
                weight = oracle_near.weight(edits, x, y)
                bounds = [0, 1, 5, GREAT, 10 ** 40]
                if weight is not None:
                    bounds += [bound for bound in (weight - 1, weight, weight + 1) if bound >= 0]
                for k in bounds:
                    bar = bar_of(edits, x, y, k)
                    far = weight is None or weight > k
                    self.assertIs(bar is not None, far)
                    found[far] += 1
                    if far:
                        self.assertIs(type(bar), dict)
                        self.assertTrue(oracle_near.is_bar(edits, x, y, k, bar))
                        self.assertIs(is_bar(edits, x, y, k, bar), True)
        self.assertGreater(min(found.values()), 800)

    def test_bars_with_one_thing_changed(self):
        dice = random.Random(6)
        found = {True: 0, False: 0}
        for edits in some_edits(6, 200):
            for x, y in some_pairs(dice, edits, 3):
                weight = oracle_near.weight(edits, x, y)
                k = dice.choice([0, 1, 2, 7]) if not weight else weight - 1
                bar = bar_of(edits, x, y, k)
                pairs = list(itertools.product(range(len(x) + 1), range(len(y) + 1)))
                for places in oracle_near.changed_places(dice, bar or {(0, 0): 0}, pairs, 15):
                    right = oracle_near.is_bar(edits, x, y, k, places)
                    self.assertIs(is_bar(edits, x, y, k, places), right)
                    found[right] += 1
                    self.assertFalse(right and weight is not None and weight <= k)
        self.assertGreater(min(found.values()), 800)

    def test_bars_for_other_bounds(self):
        edits = Edits("ab", [("a", "b", 2), ("b", "", 5)])
        bar = bar_of(edits, "ab", "b", 6)
        self.assertEqual(weight_of(edits, "ab", "b"), 7)
        self.assertTrue(is_bar(edits, "ab", "b", 6, bar))
        for k in (7, 8, 10 ** 40):
            self.assertFalse(is_bar(edits, "ab", "b", k, bar))
            self.assertIsNone(bar_of(edits, "ab", "b", k))
        # A bar within a bound is one within less.
        for k in range(6):
            self.assertTrue(is_bar(edits, "ab", "b", k, bar))

    def test_what_a_bar_needs(self):
        edits = Edits("ab", [("ab", "ba", 1), ("a", "", 3)])
        bar = {(0, 0): 0, (1, 1): 0}
        self.assertTrue(is_bar(edits, "ba", "b", 2, bar))
        for wrong in ({}, {(0, 0): 0}, {(1, 1): 0}, {(0, 0): 1, (1, 1): 1}, {**bar, (2, 1): 3}, {**bar, (2, 1): 0},
                      {(0, 0): 0, (1, 1): 1}, {**bar, (0, 1): -1}, {**bar, (3, 0): 0}, {**bar, (0, 2): 0},
                      {**bar, (-1, 0): 0}, {**bar, (0, -1): 0}):
            self.assertFalse(is_bar(edits, "ba", "b", 2, wrong), msg=wrong)
            self.assertFalse(oracle_near.is_bar(edits, "ba", "b", 2, wrong))
        # Places that no row of columns comes to may be there, too.
        self.assertTrue(is_bar(edits, "ba", "b", 2, {**bar, (0, 1): 7}))
        self.assertFalse(is_bar(edits, "ba", "b", 3, bar))

    def test_empty_texts(self):
        edits = Edits("ab", [("", "a", 3)])
        self.assertIsNone(bar_of(edits, "", "", 0))
        self.assertFalse(is_bar(edits, "", "", 0, {(0, 0): 0}))
        self.assertFalse(is_bar(edits, "", "", 0, {}))
        self.assertEqual(bar_of(edits, "", "a", 2), {(0, 0): 0})
        self.assertIsNone(bar_of(edits, "", "a", 3))

    def test_bounds(self):
        edits = Edits("ab", [("a", "b", 2)])
        for k in (-1, 10 ** 40 + 1, 10 ** 50, True, False, None, "1", (), [1]):
            for ask in (lambda: bar_of(edits, "a", "b", k), lambda: is_bar(edits, "a", "b", k, {})):
                with self.assertRaises(BadBound) as caught:
                    ask()
                self.assertEqual(caught.exception.bound, k)
                self.assertIs(type(caught.exception.bound), type(k))
        for k in (0, 1, 2, 10 ** 40 - 1, 10 ** 40):
            self.assertIs(bar_of(edits, "a", "b", k) is None, k >= 2)
            self.assertFalse(is_bar(edits, "a", "b", k, {}))

    def test_a_new_dict_each_time(self):
        edits = Edits("ab", [("a", "b", 2)])
        one = bar_of(edits, "ab", "bb", 1)
        kept = dict(one)
        one.clear()
        self.assertEqual(bar_of(edits, "ab", "bb", 1), kept)


class Errors(unittest.TestCase):
    def test_bad_signs_in_their_order(self):
        edits = Edits("ab", [("a", "b", 2)])
        calls = {"weight_of": lambda x, y, k: weight_of(edits, x, y),
                 "columns_of": lambda x, y, k: columns_of(edits, x, y),
                 "bar_of": lambda x, y, k: bar_of(edits, x, y, k),
                 "is_bar": lambda x, y, k: is_bar(edits, x, y, k, {(0, 0): -1})}
        for ask in calls.values():
            for x, y, place in (("abc", "dab", 2), ("ab", "aad", 2), ("c", "", 0), ("", "c", 0), ("aBb", "ab", 1),
                                ("a b", "c", 1), ("ab" * 20 + "c" + "c", "ab", 40)):
                for k in (3, -1, None):
                    with self.assertRaises(BadSign) as caught:
                        ask(x, y, k)
                    self.assertEqual(caught.exception.place, place)

    def test_by_name(self):
        edits = Edits("ab", [("a", "b", 2)])
        self.assertEqual(weight_of(y="b", x="a", edits=edits), 2)
        self.assertEqual(columns_of(y="b", x="a", edits=edits), (0,))
        self.assertEqual(bar_of(k=1, y="b", x="a", edits=edits), {(0, 0): 0})
        self.assertTrue(is_bar(places={(0, 0): 0}, k=1, y="b", x="a", edits=edits))

    def test_equal_calls(self):
        dice = random.Random(8)
        for edits in some_edits(8, 60):
            for x, y in some_pairs(dice, edits, 3):
                again = Edits(edits.signs, [list(row) for row in edits.rows])
                self.assertEqual(columns_of(edits, x, y), columns_of(again, x, y))
                self.assertEqual(bar_of(edits, x, y, 1), bar_of(again, x, y, 1))


if __name__ == "__main__":
    unittest.main()
