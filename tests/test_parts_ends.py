"""[10], [11] heads, tails, sized and counted."""

import unittest

import oracle
from nevermiss.errors import TooMany
from nevermiss.machines import Machine
from nevermiss.parts import counted, heads, sized, tails

LONG = {1: 20, 2: 8, 3: 6, 4: 5}


class Checks(unittest.TestCase):
    def check(self, machine, signs, told, states, seed):
        """The keys of each text, and no more states and keys than [10] allows."""
        self.assertIsInstance(machine, Machine)
        self.assertEqual(machine.signs, signs)
        self.assertLessEqual(oracle.states_of(machine), states)
        named = set()
        for text in oracle.texts(signs, LONG[len(signs)]):
            self.assertEqual(machine.keys_of(text), told(text), msg=text)
            named.update(told(text))
        for text in oracle.some_texts(signs, 40, 30, seed):
            self.assertEqual(machine.keys_of(text), told(text), msg=text)
        return named

    def too_many(self, what, make, *given):
        with self.assertRaises(TooMany, msg=repr(given)) as caught:
            make(*given)
        self.assertEqual(caught.exception.what, what, msg=repr(given))


class Ends(Checks):
    def test_keys_states_and_too_many(self):
        for signs in oracle.SIGNS:
            for n in range(10):
                texts = len(list(oracle.texts(signs, min(n, 6))))
                if n > 6:
                    texts = n + 1 if len(signs) == 1 else 13
                if texts > 12:
                    self.too_many("keys", heads, signs, n)
                    self.too_many("keys", tails, signs, n)
                    continue
                named = self.check(heads(signs, n), signs, lambda text: oracle.head(text, n), texts, n)
                self.assertEqual(heads(signs, n).all_keys, tuple(sorted(named)))
                named = self.check(tails(signs, n), signs, lambda text: oracle.tail(text, n), texts, n)
                self.assertEqual(tails(signs, n).all_keys, tuple(sorted(named)))

    def test_just_where_there_are_too_many(self):
        for signs, most in (("a", 9), ("ba", 2), ("cab", 1), ("dbca", 1)):
            for make in (heads, tails):
                self.assertIsInstance(make(signs, most), Machine)
                if most < 9:
                    self.too_many("keys", make, signs, most + 1)
                    self.too_many("keys", make, signs, 9)

    def test_plain_ones(self):
        self.assertEqual(heads("ab", 2).keys_of("abba"), ("fab",))
        self.assertEqual(tails("ab", 2).keys_of("abbab"), ("lab",))
        self.assertEqual((heads("ab", 2).keys_of(""), tails("ab", 2).keys_of("")), (("f",), ("l",)))
        self.assertEqual((heads("ab", 0).keys_of("ab"), tails("ab", 0).keys_of("ab")), (("f",), ("l",)))
        self.assertEqual((heads("ab", 2).keys_of("b"), tails("ab", 2).keys_of("b")), (("fb",), ("lb",)))

    def test_by_name(self):
        self.assertEqual(heads(n=1, signs="ba"), heads("ba", 1))
        self.assertEqual(tails(n=1, signs="ba"), tails("ba", 1))

    def test_somewhat_beyond(self):
        self.check(heads("a", 11), "a", lambda text: oracle.head(text, 11), 12, 0)
        self.check(tails("a", 10), "a", lambda text: oracle.tail(text, 10), 11, 0)
        self.too_many("keys", heads, "a", 12)
        self.too_many("keys", tails, "a", 12)
        self.assertEqual(tails("edcba", 1).keys_of("ace"), ("le",))
        self.assertEqual(heads("edcba", 1).keys_of("ace"), ("fa",))


class Sized(Checks):
    def test_keys_and_states(self):
        for signs in oracle.SIGNS:
            for n in range(10):
                machine = sized(signs, n)
                self.check(machine, signs, lambda text: oracle.size(text, n), n + 1, n)
                self.assertEqual(machine.all_keys, tuple("n%d" % length for length in range(n + 1)))

    def test_plain_ones(self):
        self.assertEqual([sized("ab", 2).keys_of(text) for text in ("", "b", "ba", "bab", "baba")],
                         [("n0",), ("n1",), ("n2",), ("n2",), ("n2",)])
        self.assertEqual(sized("ab", 0).keys_of("ab"), ("n0",))
        self.assertEqual(sized(n=3, signs="ab"), sized("ab", 3))
        self.assertEqual(sized("ab", 11).keys_of("ab" * 5), ("n10",))
        self.assertEqual(sized("ab", 11).keys_of("ab" * 9), ("n11",))


class Counted(Checks):
    def test_keys_and_states(self):
        for signs in oracle.SIGNS:
            for sign in signs:
                for modulus in range(1, 10):
                    machine = counted(signs, sign, modulus)
                    self.check(machine, signs, lambda text: oracle.count(text, sign, modulus), modulus, modulus)
                    keys = tuple("c%s%d" % (sign, number) for number in range(modulus))
                    self.assertLessEqual(set(machine.all_keys), set(keys))

    def test_plain_ones(self):
        self.assertEqual([counted("ab", "b", 2).keys_of(text) for text in ("", "b", "bab", "aa", "bbb")],
                         [("cb0",), ("cb1",), ("cb0",), ("cb0",), ("cb1",)])
        self.assertEqual(counted("ab", "a", 1).keys_of("aab"), ("ca0",))
        self.assertEqual(counted(modulus=3, sign="a", signs="ab"), counted("ab", "a", 3))
        self.assertEqual(counted("ab", "a", 12).keys_of("a" * 23), ("ca11",))


if __name__ == "__main__":
    unittest.main()
