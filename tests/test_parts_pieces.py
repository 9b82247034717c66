"""[10], [12] pieces and lightest."""

import unittest

import oracle
from nevermiss.errors import TooMany
from nevermiss.machines import Machine
from nevermiss.parts import lightest, pieces

LONG = {1: 22, 2: 9, 3: 6, 4: 5}


def number_of_texts(signs, lengths):
    return sum(len(signs) ** length for length in lengths)


def due(signs, places, size):
    """What is too many, or the number of states that [12] counts."""
    if len(signs) ** size > 11:
        return "keys"
    width = places + size - 1
    states = number_of_texts(signs, range(width)) + number_of_texts(signs, [width - 1])
    return "states" if states > 16 else states


class Pieces(unittest.TestCase):
    def check(self, make, places, size, signs, told):
        expected = due(signs, places, size)
        if expected in ("keys", "states"):
            with self.assertRaises(TooMany, msg=repr((signs, places, size))) as caught:
                make()
            self.assertEqual(caught.exception.what, expected)
            return False
        machine = make()
        self.assertIsInstance(machine, Machine)
        self.assertEqual(machine.signs, signs)
        self.assertLessEqual(oracle.states_of(machine), expected)
        named = set()
        for text in oracle.texts(signs, LONG[len(signs)]):
            self.assertEqual(machine.keys_of(text), told(text), msg=text)
            named.update(told(text))
        for text in oracle.some_texts(signs, 40, 30, size):
            self.assertEqual(machine.keys_of(text), told(text), msg=text)
        self.assertEqual(machine.all_keys, tuple(sorted(named)))
        return True

    def test_pieces(self):
        made = [(signs, size) for signs in oracle.SIGNS for size in range(1, 10)
                if self.check(lambda: pieces(signs, size), 1, size, signs, lambda text: oracle.pieces(text, size))]
        self.assertEqual(made, [("a", size) for size in range(1, 10)]
                         + [("ba", 1), ("ba", 2), ("ba", 3), ("cab", 1), ("cab", 2), ("dbca", 1)])

    def test_lightest(self):
        made = [(signs, places, size) for signs in oracle.SIGNS for places in range(1, 10) for size in range(1, 10)
                if self.check(lambda: lightest(signs, places, size), places, size, signs,
                              lambda text: oracle.lightest(signs, text, places, size))]
        self.assertEqual([one for one in made if one[0] != "a"],
                         [("ba", 1, 1), ("ba", 1, 2), ("ba", 1, 3), ("ba", 2, 1), ("ba", 2, 2), ("ba", 3, 1),
                          ("cab", 1, 1), ("cab", 1, 2), ("cab", 2, 1), ("dbca", 1, 1), ("dbca", 2, 1)])
        self.assertEqual([one[1:] for one in made if one[0] == "a"],
                         [(places, size) for places in range(1, 10) for size in range(1, 10) if places + size <= 16])

    def test_plain_pieces(self):
        machine = pieces("ab", 2)
        self.assertEqual([machine.keys_of(text) for text in ("", "a", "ab", "aab", "abba")],
                         [("short",), ("short",), ("pab",), ("paa", "pab"), ("pab", "pba", "pbb")])

    def test_plain_lightest(self):
        machine = lightest("ab", 2, 2)
        self.assertEqual([machine.keys_of(text) for text in ("", "b", "ba", "bba", "bbb", "bbaa", "bbab")],
                         [("short",), ("short",), ("mba",), ("mba",), ("mbb",), ("maa", "mba"), ("mab", "mba")])
        self.assertEqual(lightest("ab", 2, 1).keys_of("bab"), ("ma",))
        self.assertEqual(lightest("ab", 3, 1).keys_of("bbabbb"), ("ma", "mb"))

    def test_the_order_of_the_signs(self):
        self.assertEqual(lightest("ba", 2, 1).keys_of("bab"), ("mb",))
        self.assertEqual(lightest("ba", 2, 2).keys_of("aba"), ("mba",))
        self.assertEqual(lightest("ab", 2, 2).keys_of("aba"), ("mab",))
        self.assertEqual(lightest("cab", 2, 1).keys_of("ab"), ("ma",))
        self.assertEqual(lightest("cab", 2, 1).keys_of("bc"), ("mc",))

    def test_fewer_places_just_so_many_and_more(self):
        machine = lightest("ba", 3, 1)
        self.assertEqual([machine.keys_of(text) for text in ("", "a", "ab", "aaa", "aab", "aabaaa", "aaab")],
                         [("short",), ("ma",), ("mb",), ("ma",), ("mb",), ("ma", "mb"), ("ma", "mb")])

    def test_keys_ahead_of_states(self):
        for make in (lambda: pieces("ab", 9), lambda: lightest("abcd", 9, 2), lambda: lightest("ab", 9, 4)):
            with self.assertRaises(TooMany) as caught:
                make()
            self.assertEqual(caught.exception.what, "keys")
        for make in (lambda: lightest("ab", 3, 2), lambda: lightest("abcd", 3, 1), lambda: lightest("a", 9, 8),
                     lambda: lightest("abcd", 9, 1), lambda: lightest("abc", 2, 2)):
            with self.assertRaises(TooMany) as caught:
                make()
            self.assertEqual(caught.exception.what, "states")

    def test_by_name(self):
        self.assertEqual(pieces(size=2, signs="ab"), pieces("ab", 2))
        self.assertEqual(lightest(size=2, places=1, signs="ab"), lightest("ab", 1, 2))

    def test_somewhat_beyond(self):
        self.assertEqual(pieces("a", 15).keys_of("a" * 16), ("p" + "a" * 15,))
        self.assertEqual(pieces("a", 15).keys_of("a" * 14), ("short",))
        self.assertEqual(lightest("a", 12, 1).keys_of("aa"), ("ma",))
        self.assertEqual(pieces("edcba", 1).keys_of("ada"), ("pa", "pd"))
        with self.assertRaises(TooMany) as caught:
            pieces("a", 16)
        self.assertEqual(caught.exception.what, "states")
        self.assertEqual(pieces("abcdefghijk", 1).keys_of("kb"), ("pb", "pk"))
        with self.assertRaises(TooMany) as caught:
            pieces("abcdefghijkl", 1)
        self.assertEqual(caught.exception.what, "keys")


if __name__ == "__main__":
    unittest.main()
