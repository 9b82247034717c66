"""[80], [82], [83]: the Table of nevermiss/tables.py."""

import random
import unittest

import oracle
import oracle_near
from nevermiss import parts
from nevermiss.edits import Edits
from nevermiss.errors import BadBound, BadName, BadSign, TooMany, Unlike
from nevermiss.rules import Rule
from nevermiss.sure import Sure, sure
from nevermiss.tables import Table

ROWS = {"one": "aab", "two": "aba", "six": "bb"}
BAD_NAMES = ["", "A", "a b", "a-b", "abcdefghijklm", "x_", " a", "a\n"]
STRANGE_BOUNDS = [-1, 10 ** 40 + 1, True, False, None, "1", ()]


def some_tables(seed, many):
    """Tuples (table, rule, edits, k), the same ones each time."""
    dice = random.Random(seed)
    for rule, edits, k, _, _ in oracle.questions(seed, many):
        signs = dice.choice([rule.signs, rule.signs[::-1]])
        names = dice.sample(["b", "a", "a0", "0", "z9", "10", "9", "aa", "abcdefghijkl", "k"], dice.randint(0, 7))
        rows = {name: "".join(dice.choice(signs) for _ in range(dice.choice([0, 1, 2, 3, 4, 8]))) for name in names}
        yield Table(signs, rows), rule, edits, dice.choice([0, 1, 2, 3]) if k is None else k


class Rows(unittest.TestCase):
    def check(self, call, kind, field, value):
        with self.assertRaises(kind) as caught:
            call()
        self.assertIs(type(caught.exception), kind)
        self.assertEqual(getattr(caught.exception, field), value)

    def test_attributes(self):
        rows = {"b": "ab", "a": "", "10": "b", "9": "b"}
        table = Table("ba", rows)
        self.assertEqual((table.signs, table.rows, list(table.rows)), ("ba", rows, ["10", "9", "a", "b"]))
        self.assertIs(type(table.rows), dict)
        self.assertEqual(list(rows), ["b", "a", "10", "9"])
        table = Table(rows=rows, signs="ba")
        self.assertEqual(table.rows, rows)

    def test_rows_are_copied(self):
        rows = dict(ROWS)
        table = Table("ab", rows)
        rows["new"] = "a"
        rows["one"] = "b"
        del rows["two"]
        self.assertEqual(table.rows, ROWS)
        self.assertEqual((table["one"], table["two"], "new" in table, len(table)), ("aab", "aba", False, 3))

    def test_who_changes_the_dict_changes_no_table(self):
        table = Table("ab", ROWS)
        table.rows["new"] = "bb"
        del table.rows["one"]
        self.assertEqual((len(table), "one" in table, "new" in table, table["one"]), (3, True, False, "aab"))
        self.assertEqual(table, Table("ab", ROWS))
        self.assertEqual(table.found(Rule(parts.sized("ab", 0)), "a"), ("one", "six", "two"))

    def test_bad_names(self):
        for name in BAD_NAMES:
            self.check(lambda: Table("ab", {"zz": "a", name: "a"}), BadName, "name", name)
        self.check(lambda: Table("ab", {"zz": "a", "b-": "a", "B": "c", "a+": "a"}), BadName, "name", "B")
        self.check(lambda: Table("ab", {"b-": "a", "a+": "a" * 31, "c": "c"}), BadName, "name", "a+")
        self.check(lambda: Table("ab", {"n%d" % n: "a" for n in range(30)} | {"?": "a"}), BadName, "name", "?")
        for name in ("a", "0", "abcdefghijkl", "z9"):
            self.assertEqual(Table("ab", {name: ""})[name], "")

    def test_bad_signs(self):
        self.check(lambda: Table("ab", {"b": "aac", "a": "abbac"}), BadSign, "place", 4)
        self.check(lambda: Table("ab", {"b": "cab", "a": "ab", "c": "bbbb?"}), BadSign, "place", 0)
        self.check(lambda: Table("ab", {"a": "b" * 31, "b": "aAb"}), BadSign, "place", 1)
        self.check(lambda: Table("ab", {"n%d" % n: "ab" for n in range(25)} | {"zz": "a b"}), BadSign, "place", 1)

    def test_too_many(self):
        self.assertEqual(len(Table("ab", {"a": "ab" * 15})), 1)
        self.check(lambda: Table("ab", {"a": "ab" * 15 + "a"}), TooMany, "what", "signs")
        rows = {"n%d" % n: "ab" for n in range(24)}
        self.assertEqual(len(Table("ab", rows)), 24)
        self.check(lambda: Table("ab", {**rows, "zz": "a"}), TooMany, "what", "rows")
        self.check(lambda: Table("ab", {**rows, "a": "a" * 31}), TooMany, "what", "signs")

    def test_names(self):
        table = Table("ab", ROWS)
        for name in ROWS:
            self.assertEqual(table[name], ROWS[name])
            self.assertIs(name in table, True)
        for name in ("", "three", "ONE", "on", "aab", *BAD_NAMES):
            self.check(lambda: table[name], BadName, "name", name)
            self.assertIs(name in table, False)
        self.assertEqual([len(Table("ab", {})), len(table)], [0, 3])

    def test_not_iterated_over(self):
        for table in (Table("ab", ROWS), Table("ab", {})):
            self.assertRaises(TypeError, iter, table)
            self.assertRaises(TypeError, list, table)
            with self.assertRaises(TypeError):
                for _ in table:
                    pass

    def test_equal(self):
        table = Table("ab", ROWS)
        self.assertEqual(table, Table("ab", {name: ROWS[name] for name in sorted(ROWS)}))
        self.assertEqual(table, Table("ba", ROWS))
        self.assertEqual(Table("abcd", {}), Table("dbca", {}))
        for other in (Table("abc", ROWS), Table("ab", {}), Table("ab", {**ROWS, "new": ""}),
                      Table("ab", {**ROWS, "one": "aa"}), Table("ab", {"one": "aab", "two": "aba", "siy": "bb"}),
                      ROWS, "ab", None, ("ab", ROWS)):
            self.assertFalse(table == other)
            self.assertTrue(table != other)


class Near(unittest.TestCase):
    def test_against_all_pairs(self):
        found = {0: 0, 1: 0, "idle": 0, "missed": 0}
        for table, rule, edits, k in some_tables(1, 250):
            texts = table.rows
            near, missed, idle = [], [], []
            for a in sorted(texts):
                for b in sorted(texts):
                    weight = oracle_near.weight(edits, texts[a], texts[b])
                    meets = oracle.keys(rule.left, texts[a]) & oracle.keys(rule.right, texts[b])
                    if a != b and weight is not None and weight <= k:
                        near.append((a, b, weight))
                        if not meets:
                            missed.append((a, b, weight))
                    elif a != b and meets:
                        idle.append((a, b))
            self.assertEqual(table.near(edits, k), tuple(near))
            self.assertEqual(table.missed(rule, edits, k), tuple(missed))
            self.assertEqual(table.idle(rule, edits, k), tuple(idle))
            found[min(1, len(near))] += 1
            found["missed"] += len(missed)
            found["idle"] += len(idle)
        self.assertGreater(min(found.values()), 50)

    def test_near_text(self):
        dice = random.Random(2)
        found = {0: 0, 1: 0}
        for table, rule, edits, k in some_tables(2, 250):
            text = "".join(dice.choice(edits.signs) for _ in range(dice.randint(0, 5)))
            if len(table) and dice.random() < 0.3:
                text = dice.choice(list(table.rows.values()))
            weights = {name: oracle_near.weight(edits, table[name], text) for name in table.rows}
            near = sorted([(weights[name], name) for name in weights
                           if weights[name] is not None and weights[name] <= k])
            self.assertEqual(table.near_text(edits, k, text), tuple(near))
            found[min(1, len(near))] += 1
        self.assertGreater(min(found.values()), 40)

    def test_found_and_shelf(self):
        dice = random.Random(3)
        found = {0: 0, 1: 0}
        for table, rule, edits, k in some_tables(3, 250):
            text = "".join(dice.choice(edits.signs) for _ in range(dice.randint(0, 5)))
            kept = {name: oracle.keys(rule.left, table[name]) for name in table.rows}
            own = oracle.keys(rule.right, text)
            names = tuple(sorted([name for name in kept if kept[name] & own]))
            self.assertEqual(table.found(rule, text), names)
            keys = sorted({key for name in kept for key in kept[name]})
            shelf = table.shelf(rule)
            self.assertEqual(shelf, {key: tuple(sorted([name for name in kept if key in kept[name]]))
                                     for key in keys})
            self.assertEqual(list(shelf), keys)
            self.assertIs(type(shelf), dict)
            # What is found are the names on the shelves of the keys of the text.
            self.assertEqual(names, tuple(sorted({name for key in shelf if key in own for name in shelf[key]})))
            found[min(1, len(names))] += 1
        self.assertGreater(min(found.values()), 50)

    def test_near_in_one_direction_only(self):
        table = Table("ab", {"x": "ab", "a": "b", "c": "b", "b": ""})
        edits = Edits("ab", [("a", "", 3)])
        self.assertEqual(table.near(edits, 3), (("a", "c", 0), ("c", "a", 0), ("x", "a", 3), ("x", "c", 3)))
        self.assertEqual(table.near(edits, 2), (("a", "c", 0), ("c", "a", 0)))
        self.assertEqual(table.near_text(edits, 3, "b"), ((0, "a"), (0, "c"), (3, "x")))
        self.assertEqual(table.near_text(edits, 3, "ab"), ((0, "x"),))
        rule = Rule(parts.heads("ab", 1))
        self.assertEqual(table.missed(rule, edits, 3), (("x", "a", 3), ("x", "c", 3)))
        self.assertEqual(table.idle(rule, edits, 3), ())
        self.assertEqual(table.idle(Rule(parts.tails("ab", 1)), edits, 2),
                         (("a", "x"), ("c", "x"), ("x", "a"), ("x", "c")))

    def test_the_order_is_of_strings(self):
        table = Table("ab", {"a10": "a", "a9": "a", "9": "a", "10": "a"})
        edits = Edits("ab", [])
        self.assertEqual([(a, b) for a, b, weight in table.near(edits, 0)][:4],
                         [("10", "9"), ("10", "a10"), ("10", "a9"), ("9", "10")])
        self.assertEqual(table.near_text(edits, 0, "a"), ((0, "10"), (0, "9"), (0, "a10"), (0, "a9")))
        self.assertEqual(table.found(Rule(parts.sized("ab", 0)), ""), ("10", "9", "a10", "a9"))
        self.assertEqual(table.shelf(Rule(parts.sized("ab", 0))), {"n0": ("10", "9", "a10", "a9")})
        table = Table("ab", {"b": "ab", "c": "b", "a": "aab"})
        self.assertEqual(table.near_text(Edits("ab", [("a", "", 1)]), 9, "b"), ((0, "c"), (1, "b"), (2, "a")))

    def test_rules_of_two_machines(self):
        table = Table("ba", {"a": "ab", "b": "ba", "c": "aa"})
        rule = Rule(parts.heads("ab", 1), parts.renamed(parts.tails("ab", 1), {"la": "fa", "lb": "fb", "l": "f"}))
        self.assertEqual(table.found(rule, "ab"), ("b",))
        self.assertEqual(table.found(rule, "ba"), ("a", "c"))
        self.assertEqual(table.shelf(rule), {"fa": ("a", "c"), "fb": ("b",)})
        self.assertEqual(table.shelf(rule.turned()), {"fa": ("b", "c"), "fb": ("a",)})
        edits = Edits("ab", [("ab", "ba", 1), ("a", "b", 2)])
        self.assertEqual(table.near(edits, 2), (("a", "b", 1), ("c", "a", 2), ("c", "b", 2)))
        self.assertEqual(table.missed(rule, edits, 2), (("c", "a", 2),))
        self.assertEqual(table.idle(rule, edits, 2), (("a", "c"), ("b", "a")))

    def test_nothing_missed_where_no_row_is_bad(self):
        found = {True: 0, False: 0}
        for table, rule, edits, k in some_tables(4, 250):
            if isinstance(sure(rule, edits, k), Sure):
                self.assertEqual(table.missed(rule, edits, k), ())
                found[True] += 1
            elif not table.missed(rule, edits, k):
                found[False] += 1
        self.assertGreater(min(found.values()), 30)

    def test_bounds(self):
        table = Table("ab", {"a": "a", "b": "b"})
        edits = Edits("ab", [("a", "b", 10 ** 30)])
        for k in (0, 10 ** 30 - 1):
            self.assertEqual(table.near(edits, k), ())
            self.assertEqual(table.near_text(edits, k, "b"), ((0, "b"),))
        for k in (10 ** 30, 10 ** 40):
            self.assertEqual(table.near(edits, k), (("a", "b", 10 ** 30),))
            self.assertEqual(table.near_text(edits, k, "b"), ((0, "b"), (10 ** 30, "a")))

    def test_full_tables(self):
        dice = random.Random(5)
        rows = {"n%d" % n: "".join(dice.choice("abcd") for _ in range(30)) for n in range(24)}
        table = Table("abcd", rows)
        edits = Edits.plain("abcd", 2, 2, 3)
        near = table.near(edits, 10 ** 40)
        self.assertEqual(len(near), 24 * 23)
        for a, b, weight in near[::60]:
            self.assertEqual(weight, oracle_near.weight(edits, rows[a], rows[b]))
        rule = Rule(parts.heads("abcd", 1))
        self.assertEqual(len(table.missed(rule, edits, 10 ** 40)) + len(table.idle(rule, edits, 0)), 24 * 23)

    def test_new_dicts(self):
        table, rule = Table("ab", ROWS), Rule(parts.heads("ab", 1))
        table.shelf(rule).clear()
        self.assertEqual(table.shelf(rule), {"fa": ("one", "two"), "fb": ("six",)})


class Errors(unittest.TestCase):
    def setUp(self):
        self.table = Table("ab", ROWS)
        # Each takes a rule, edits, a bound and a text.
        self.calls = {"near": lambda r, e, k, text: self.table.near(e, k),
                      "near_text": lambda r, e, k, text: self.table.near_text(e, k, text),
                      "found": lambda r, e, k, text: self.table.found(r, text),
                      "shelf": lambda r, e, k, text: self.table.shelf(r),
                      "missed": lambda r, e, k, text: self.table.missed(r, e, k),
                      "idle": lambda r, e, k, text: self.table.idle(r, e, k)}
        self.rule, self.edits = Rule(parts.sized("ba", 1)), Edits("ba", [])

    def test_no_error(self):
        for ask in self.calls.values():
            ask(self.rule, self.edits, 0, "abba" * 20)

    def test_unlike(self):
        for name, ask in self.calls.items():
            for signs in ("a", "abc", "bc"):
                other_rule, other_edits = Rule(parts.sized(signs, 1)), Edits(signs, [])
                if name not in ("near", "near_text"):
                    self.assertRaises(Unlike, ask, other_rule, self.edits, -1, "?")
                if name not in ("found", "shelf"):
                    self.assertRaises(Unlike, ask, self.rule, other_edits, None, "?")

    def test_bad_bound(self):
        for name in ("near", "near_text", "missed", "idle"):
            for k in STRANGE_BOUNDS:
                with self.assertRaises(BadBound) as caught:
                    self.calls[name](self.rule, self.edits, k, "?")
                self.assertEqual(caught.exception.bound, k)
                self.assertIs(type(caught.exception.bound), type(k))
            for k in (0, 1, 10 ** 40):
                self.calls[name](self.rule, self.edits, k, "a")

    def test_bad_sign(self):
        for name in ("near_text", "found"):
            for text, place in (("?", 0), ("abc", 2), ("ab" * 30 + "A", 60)):
                for table in (self.table, Table("ab", {})):
                    self.table = table
                    with self.assertRaises(BadSign) as caught:
                        self.calls[name](self.rule, self.edits, 1, text)
                    self.assertEqual(caught.exception.place, place)

    def test_by_name(self):
        table, rule, edits = self.table, self.rule, self.edits
        table.near(k=1, edits=edits)
        table.near_text(text="a", k=1, edits=edits)
        table.found(text="a", rule=rule)
        table.shelf(rule=rule)
        table.missed(k=1, edits=edits, rule=rule)
        table.idle(k=1, edits=edits, rule=rule)


if __name__ == "__main__":
    unittest.main()
