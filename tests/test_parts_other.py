"""[10], [13] folded, beside, holding and renamed."""

import random
import unittest

import oracle
from nevermiss.errors import TooMany, Unlike
from nevermiss.machines import Machine
from nevermiss.parts import beside, counted, folded, heads, holding, pieces, renamed, sized, tails

KEYS = ["x", "y", "a", "0", "10", "9", "zz", "abcdefghijkl", "k3y", "12ab", "b", "ab"]
LONG = {1: 16, 2: 6, 3: 4, 4: 4}


def some_machines(keys=tuple(KEYS)):
    for signs in oracle.SIGNS:
        for states in (1, 2, 3, 5, 9, 16):
            rows, ends = oracle.parts_of_machine(signs, states, keys, signs + str(states))
            yield Machine(signs, rows, ends)


def replaced(text, words):
    return "".join(words[sign] for sign in text)


def pairs_of(one, other):
    """The pairs of states to which both machines come by the same text."""
    seen, new = set(), {(0, 0)}
    while new:
        seen = seen | new
        new = {(one.rows[p][one.signs.index(sign)][0], other.rows[q][other.signs.index(sign)][0])
               for p, q in new for sign in one.signs} - seen
    return seen


class Folded(unittest.TestCase):
    def test_some(self):
        dice = random.Random(1)
        for machine in some_machines():
            before = (str(machine), machine.all_keys)
            for signs in ("b", "ca", "zyx", "hgfe"):
                words = {sign: "".join(dice.choice(machine.signs) for _ in range(length))
                         for sign, length in zip(signs, dice.sample([0, 1, 2, 5], len(signs)))}
                kept = dict(words)
                new = folded(machine, signs, words)
                self.assertEqual(new.signs, signs)
                self.assertLessEqual(set(new.all_keys), set(machine.all_keys))
                for text in oracle.texts(signs, LONG[len(signs)]):
                    self.assertEqual(new.keys_of(text), machine.keys_of(replaced(text, words)))
                self.assertEqual(words, kept)
            self.assertEqual((str(machine), machine.all_keys), before)

    def test_plain_ones(self):
        machine = folded(pieces("ab", 2), "xyz", {"x": "", "y": "a", "z": "bab"})
        self.assertEqual([machine.keys_of(text) for text in ("", "xx", "y", "yxy", "z", "zy")],
                         [("short",), ("short",), ("short",), ("paa",), ("pab", "pba"), ("pab", "pba")])

    def test_signs_that_have_the_same_letters(self):
        machine = folded(heads("ab", 1), "ba", {"a": "b", "b": "a"})
        self.assertEqual((machine.keys_of("ab"), machine.signs), (("fb",), "ba"))

    def test_by_name_and_copied(self):
        words = {"p": "a", "q": "b"}
        machine = folded(words=words, signs="pq", machine=tails("ab", 1))
        words["p"] = "b"
        self.assertEqual(machine.keys_of("qp"), ("la",))


class Beside(unittest.TestCase):
    def too_many(self, what, one, other):
        with self.assertRaises(TooMany) as caught:
            beside(one, other)
        self.assertEqual(caught.exception.what, what)

    def test_some(self):
        made = 0
        ones = list(some_machines(KEYS[:6]))
        others = list(some_machines(KEYS[3:9]))
        for one in ones:
            for other in others:
                if sorted(one.signs) != sorted(other.signs):
                    self.assertRaises(Unlike, beside, one, other)
                    continue
                before = str(one), str(other)
                pairs = pairs_of(one, other)
                if len(pairs) > 16:
                    self.too_many("states", one, other)
                    continue
                machine = beside(one, other)
                made += 1
                self.assertEqual(machine.signs, one.signs)
                self.assertLessEqual(oracle.states_of(machine), 16)
                self.assertLessEqual(set(machine.all_keys), set(one.all_keys) | set(other.all_keys))
                for text in oracle.texts(one.signs, LONG[len(one.signs)]):
                    self.assertEqual(machine.keys_of(text),
                                     tuple(sorted(set(one.keys_of(text)) | set(other.keys_of(text)))))
                self.assertEqual((str(one), str(other)), before)
        self.assertGreater(made, 40)

    def test_signs_in_another_order(self):
        one, other = heads("ab", 1), tails("ba", 1)
        self.assertEqual((beside(one, other).signs, beside(other, one).signs), ("ab", "ba"))
        for text in oracle.texts("ab", 6):
            self.assertEqual(beside(one, other).keys_of(text), tuple(sorted(one.keys_of(text) + other.keys_of(text))))
            self.assertEqual(beside(other, one).keys_of(text), beside(one, other).keys_of(text))
        self.assertEqual(beside(other=other, one=one), beside(one, other))

    def test_unlike(self):
        for one, other in (("ab", "ac"), ("ab", "abc"), ("abc", "ab"), ("a", "b"), ("abc", "abd")):
            self.assertRaises(Unlike, beside, sized(one, 1), sized(other, 1))

    def test_too_many_keys_just_there(self):
        def with_keys(keys):
            return Machine("ab", [[(0, keys), (0, [])]], [[]])

        twelve = ["k%d" % at for at in range(12)]
        for cut in (0, 1, 6, 12):
            machine = beside(with_keys(twelve[:cut]), with_keys(twelve[cut:]))
            self.assertEqual(machine.keys_of("a"), tuple(sorted(twelve)))
        for cut in (1, 6, 11):
            self.too_many("keys", with_keys(twelve[:cut]), with_keys(twelve[cut:] + ["z"]))
            self.too_many("keys", with_keys(twelve[:cut] + ["z"]), with_keys(twelve[cut:]))
        self.assertEqual(beside(with_keys(twelve), with_keys(twelve)).keys_of("a"), tuple(sorted(twelve)))
        self.too_many("keys", with_keys(twelve), with_keys(["more"]))
        self.too_many("keys", with_keys(["more"]), with_keys(twelve))

    def test_keys_that_no_text_has_count_too(self):
        far = Machine("ab", [[(0, []), (0, [])], [(0, ["far"]), (0, [])]], [[], []])
        twelve = Machine("ab", [[(0, ["k%d" % at for at in range(12)]), (0, [])]], [[]])
        self.too_many("keys", far, twelve)

    def test_too_many_states_just_there(self):
        for one, other, states in ((4, 4, 4), (4, 5, 20), (3, 5, 15), (2, 8, 8), (2, 7, 14), (2, 9, 18), (3, 7, 21)):
            machines = counted("ab", "a", one), renamed(counted("ba", "a", other), {})
            self.assertEqual(len(pairs_of(*machines)), states)
        for one, other in ((3, 5), (2, 7), (4, 4), (8, 2)):
            self.assertLessEqual(oracle.states_of(beside(counted("ab", "a", one), counted("ab", "a", other))), 16)
        self.assertLessEqual(oracle.states_of(beside(counted("ab", "a", 4), counted("ab", "b", 4))), 16)
        for one, other in ((5, 4), (2, 9), (3, 7)):
            self.too_many("states", counted("ab", "a", one), counted("ab", "a", other))
        # Seventeen pairs: a text of a sign alone comes to as many states as it is long, up to sixteen.
        chain = Machine("a", [[(min(at + 1, 15), [])] for at in range(16)], [[]] * 16)
        ring = Machine("a", [[(1, [])], [(0, [])]], [[], ["odd"]])
        self.assertEqual(len(pairs_of(chain, ring)), 17)
        self.too_many("states", chain, ring)
        short = Machine("a", [[(min(at + 1, 14), [])] for at in range(15)], [[]] * 15)
        self.assertEqual(len(pairs_of(short, ring)), 16)
        self.assertEqual(beside(short, ring).keys_of("a" * 33), ("odd",))

    def test_the_first_error(self):
        twelve = Machine("ab", [[(0, ["k%d" % at for at in range(12)]), (0, [])]], [[]])
        nine, eight = counted("ab", "a", 9), counted("ab", "b", 8)
        self.assertRaises(Unlike, beside, twelve, sized("ac", 9))
        self.assertRaises(Unlike, beside, counted("abc", "a", 9), eight)
        self.too_many("keys", nine, eight)
        self.too_many("states", counted("ab", "a", 6), counted("ab", "b", 5))


class Holding(unittest.TestCase):
    def test_some(self):
        dice = random.Random(4)
        for machine in some_machines():
            before = (str(machine), machine.all_keys)
            for many in (0, 1, 3, 12):
                keys = dice.sample(KEYS, many) + ["strange", "x"][:many]
                kept = list(keys)
                new = holding(machine, keys + keys[:2])
                self.assertEqual(new.signs, machine.signs)
                self.assertLessEqual(set(new.all_keys), set(machine.all_keys) & set(keys))
                for text in oracle.texts(machine.signs, LONG[len(machine.signs)]):
                    told = tuple(key for key in machine.keys_of(text) if key in keys)
                    self.assertEqual(new.keys_of(text), told)
                self.assertEqual(keys, kept)
            self.assertEqual((str(machine), machine.all_keys), before)

    def test_plain_ones(self):
        machine = holding(pieces("ab", 2), ["pba", "strange", "short", "pba"])
        self.assertEqual([machine.keys_of(text) for text in ("a", "ab", "aba")], [("short",), (), ("pba",)])
        self.assertEqual(machine.all_keys, ("pba", "short"))
        self.assertEqual(holding(pieces("ab", 2), ()).all_keys, ())
        self.assertEqual(holding(keys=("short",), machine=pieces("ab", 2)).keys_of("aa"), ())
        self.assertEqual(holding(pieces("ab", 2), ["p", "pb", "hort"]).all_keys, ())


class Renamed(unittest.TestCase):
    def test_some(self):
        for machine in some_machines():
            before = (str(machine), machine.all_keys)
            for names in ({}, {"x": "new"}, {"x": "y", "y": "x"}, {"x": "a", "y": "a", "0": "a", "b": "c"},
                          {"strange": "x", "x": "x"}, {"x": "y", "y": "a", "a": "0", "0": "10"},
                          {key: "one" for key in KEYS}):
                kept = dict(names)
                new = renamed(machine, names)
                self.assertEqual(new.signs, machine.signs)
                self.assertLessEqual(set(new.all_keys), {names.get(key, key) for key in machine.all_keys})
                for text in oracle.texts(machine.signs, LONG[len(machine.signs)]):
                    told = tuple(sorted({names.get(key, key) for key in machine.keys_of(text)}))
                    self.assertEqual(new.keys_of(text), told)
                self.assertEqual(names, kept)
            self.assertEqual((str(machine), machine.all_keys), before)

    def test_exchanged_keys(self):
        machine = renamed(heads("ab", 1), {"fa": "fb", "fb": "fa"})
        self.assertEqual((machine.keys_of("ab"), machine.keys_of("ba"), machine.keys_of("")), (("fb",), ("fa",), ("f",)))

    def test_several_keys_to_one_name(self):
        machine = renamed(pieces("ab", 1), {"pa": "p", "pb": "p", "strange": "s"})
        self.assertEqual((machine.keys_of("ab"), machine.keys_of(""), machine.all_keys),
                         (("p",), ("short",), ("p", "short")))

    def test_by_name_and_copied(self):
        names = {"fa": "first"}
        machine = renamed(names=names, machine=heads("ab", 1))
        names["fa"] = "other"
        self.assertEqual(machine.keys_of("a"), ("first",))


if __name__ == "__main__":
    unittest.main()
