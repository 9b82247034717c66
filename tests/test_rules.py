"""[20] and the class Rule of nevermiss/rules.py."""

import unittest

import oracle
from nevermiss.errors import BadSign, TooMany, Unlike
from nevermiss.machines import Machine
from nevermiss.parts import beside, heads, pieces, sized, tails
from nevermiss.rules import Rule

KEYS = ["x", "y", "a", "0", "10", "9", "zz", "b"]


def pairs_of_machines():
    """Pairs of machines with the same signs, in the same order or in another one."""
    for signs, turned in (("a", "a"), ("ba", "ab"), ("ba", "ba"), ("cab", "bca"), ("dbca", "abcd")):
        for states in (1, 2, 4, 16):
            one = oracle.parts_of_machine(signs, states, KEYS, signs + str(states))
            other = oracle.parts_of_machine(turned, 5, KEYS, turned + "other")
            yield Machine(signs, *one), Machine(turned, *other)


def with_keys(signs, keys):
    return Machine(signs, [[(0, keys)] + [(0, [])] * (len(signs) - 1)], [[]])


class Made(unittest.TestCase):
    def test_one_machine(self):
        machine = heads("ba", 1)
        for rule in (Rule(machine), Rule(machine, None), Rule(left=machine), Rule(right=machine, left=machine)):
            self.assertEqual((rule.left, rule.right), (machine, machine))
            self.assertEqual((rule.signs, rule.all_keys), ("ba", ("f", "fa", "fb")))

    def test_two_machines(self):
        left, right = pieces("ab", 1), with_keys("ba", ["pa", "z", "0"])
        rule = Rule(left, right)
        self.assertEqual((rule.left, rule.right, rule.signs), (left, right, "ab"))
        self.assertEqual(rule.all_keys, ("0", "pa", "pb", "short", "z"))
        self.assertIs(type(rule.all_keys), tuple)
        self.assertEqual(Rule(right, left).signs, "ba")

    def test_unlike(self):
        for one, other in (("ab", "ac"), ("ab", "abc"), ("abc", "ab"), ("a", "b")):
            self.assertRaises(Unlike, Rule, sized(one, 1), sized(other, 1))

    def test_too_many_keys(self):
        twelve = ["k%d" % at for at in range(12)]
        self.assertEqual(Rule(with_keys("ab", twelve[:7]), with_keys("ba", twelve[4:])).all_keys, tuple(sorted(twelve)))
        self.assertEqual(Rule(with_keys("ab", twelve)).all_keys, tuple(sorted(twelve)))
        for one, other in ((twelve, ["z"]), (["z"], twelve), (twelve[:7], twelve[4:] + ["z"])):
            with self.assertRaises(TooMany) as caught:
                Rule(with_keys("ab", one), with_keys("ab", other))
            self.assertEqual(caught.exception.what, "keys")

    def test_unlike_ahead_of_too_many(self):
        twelve = ["k%d" % at for at in range(12)]
        self.assertRaises(Unlike, Rule, with_keys("ab", twelve), with_keys("ac", ["z"]))


class Asked(unittest.TestCase):
    def test_shared_and_meets(self):
        for left, right in pairs_of_machines():
            rule = Rule(left, right)
            own = Rule(left)
            for x in oracle.texts(left.signs, 3):
                for y in oracle.some_texts(left.signs, 9, 8, x):
                    told = tuple(sorted(set(left.keys_of(x)) & set(right.keys_of(y))))
                    self.assertEqual(rule.shared(x, y), told)
                    self.assertIs(rule.meets(x, y), told != ())
                    told = tuple(sorted(set(left.keys_of(x)) & set(left.keys_of(y))))
                    self.assertEqual(own.shared(y=y, x=x), told)
                    self.assertIs(own.meets(y=y, x=x), told != ())

    def test_plain_ones(self):
        rule = Rule(pieces("ab", 2), tails("ba", 2))
        self.assertEqual(rule.shared("aab", "aab"), ())
        both = Rule(beside(pieces("ab", 1), sized("ab", 2)))
        self.assertEqual(both.shared("aab", "ba"), ("n2", "pa", "pb"))
        self.assertEqual(both.shared("", "b"), ())
        self.assertEqual((both.meets("", "b"), both.meets("", ""), both.meets("a", "b")), (False, True, True))
        self.assertIs(type(both.shared("aab", "ba")), tuple)

    def test_bad_sign(self):
        rule = Rule(heads("ab", 1), heads("ba", 1))
        for x, y, place in (("ac", "a", 1), ("a", "aac", 2), ("abc", "c", 2), ("bX", "aaX", 1)):
            for ask in (rule.shared, rule.meets):
                with self.assertRaises(BadSign) as caught:
                    ask(x, y)
                self.assertEqual(caught.exception.place, place)


class Changed(unittest.TestCase):
    def test_narrowed(self):
        for left, right in pairs_of_machines():
            rule = Rule(left, right)
            before = (str(left), str(right), rule.all_keys)
            for keys in ([], ["x"], ["zz", "strange", "a", "zz"], list(reversed(KEYS)), ("0", "9")):
                new = rule.narrowed(keys)
                self.assertIsInstance(new, Rule)
                self.assertEqual((new.signs, new.left.signs, new.right.signs), (left.signs, left.signs, right.signs))
                self.assertLessEqual(set(new.all_keys), set(rule.all_keys) & set(keys))
                for text in oracle.texts(left.signs, 3):
                    self.assertEqual(new.left.keys_of(text), tuple(k for k in left.keys_of(text) if k in keys))
                    self.assertEqual(new.right.keys_of(text), tuple(k for k in right.keys_of(text) if k in keys))
            self.assertEqual(rule.narrowed(keys=["x"]), rule.narrowed(["x", "x"]))
            self.assertEqual((str(left), str(right), rule.all_keys), before)
            self.assertEqual((rule.left, rule.right), (left, right))

    def test_turned(self):
        for left, right in pairs_of_machines():
            rule = Rule(left, right)
            new = rule.turned()
            self.assertEqual((new.left, new.right), (right, left))
            self.assertEqual((new.signs, new.all_keys), (right.signs, rule.all_keys))
            self.assertEqual(new.turned(), rule)
            self.assertEqual((rule.left, rule.right, rule.signs), (left, right, left.signs))

    def test_equal(self):
        one = Rule(heads("ab", 1), sized("ab", 1))
        self.assertTrue(one == Rule(heads("ab", 1), sized("ab", 1)))
        self.assertFalse(one != Rule(heads("ab", 1), sized("ab", 1)))
        self.assertTrue(Rule(heads("ab", 1)) == Rule(heads("ab", 1), heads("ab", 1)))
        for other in (Rule(heads("ab", 1)), Rule(sized("ab", 1)), one.turned(), Rule(heads("ab", 1), sized("ba", 1)),
                      Rule(heads("ba", 1), sized("ab", 1)), Rule(heads("ab", 1), sized("ab", 2)),
                      Rule(tails("ab", 1), sized("ab", 1))):
            self.assertFalse(one == other)
            self.assertTrue(one != other)
        for other in (None, 0, one.left, (one.left, one.right), "rule"):
            self.assertIs(one == other, False)
            self.assertIs(other == one, False)


if __name__ == "__main__":
    unittest.main()
