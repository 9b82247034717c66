"""[14], [15]: nevermiss/same.py."""

import random
import unittest

import oracle
import oracle_near
from nevermiss import parts
from nevermiss.errors import Unlike
from nevermiss.machines import Machine
from nevermiss.rules import Rule
from nevermiss.same import giving, least, parted, silent

KEYS = ["x", "y", "z"]


def machines(seed, many, signs=("a", "ba", "cab"), states=5):
    """Machines of all kinds, the same ones each time; each second one has copies of states."""
    dice = random.Random(seed)
    for at in range(many):
        letters = dice.choice(signs)
        often = dice.choice([(0.05, 0.05), (0.1, 0.3), (0.4, 0.4), (0, 0.3), (0.3, 0)])
        rows, ends = oracle.parts_of_machine(letters, dice.randint(1, states), KEYS[:dice.randint(1, 3)],
                                             dice.random(), *often)
        machine = Machine(letters, rows, ends)
        yield copied_states(dice, machine, dice.randint(1, 7)) if at % 2 else machine


def copied_states(dice, machine, more):
    """The machine with some of its states several times, in another order (but for the first one)."""
    own = [0] + dice.sample([*range(len(machine.rows)), *dice.choices(range(len(machine.rows)), k=more)],
                            len(machine.rows) + more)
    where = {state: [at for at, other in enumerate(own) if other == state] for state in own}
    rows = [[(dice.choice(where[to]), list(given)) for to, given in machine.rows[state]] for state in own]
    return Machine(machine.signs, rows, [machine.ends[state] for state in own])


def told(machine):
    return machine.signs, machine.rows, machine.ends


class Least(unittest.TestCase):
    def test_by_hand(self):
        sizes = {}
        for machine in machines(1, 800):
            small = least(machine)
            self.assertIsInstance(small, Machine)
            self.assertEqual(told(small), oracle_near.least(machine))
            sizes[len(machine.rows) - len(small.rows)] = sizes.get(len(machine.rows) - len(small.rows), 0) + 1
        self.assertGreater(sizes[0], 50)
        self.assertGreater(sizes[2], 50)

    def test_the_same_keys_for_all_texts(self):
        for machine in machines(2, 150):
            small = least(machine)
            for text in oracle.texts(machine.signs, 5):
                self.assertEqual(small.keys_of(text), machine.keys_of(text))
                self.assertEqual(oracle_near.walked(small, 0, text)[:2], oracle_near.walked(machine, 0, text)[:2])

    def test_no_two_states_do_the_same(self):
        for machine in machines(3, 150):
            small = least(machine)
            many = len(small.rows)
            for one in range(many):
                for other in range(one):
                    self.assertFalse(oracle_near.do_the_same(small, one, other, min(many, 6)))

    def test_numbers_of_states(self):
        for machine in machines(4, 200):
            small = least(machine)
            found = oracle_near.first_texts(small)
            self.assertEqual(list(found), list(range(len(small.rows))))

    def test_the_order_of_the_signs(self):
        rows = {"ab": [[(1, []), (2, [])], [(1, ["x"]), (1, [])], [(2, []), (2, ["y"])]],
                "ba": [[(2, []), (1, [])], [(1, []), (1, ["x"])], [(2, ["y"]), (2, [])]]}
        for signs, first in (("ab", "a"), ("ba", "b")):
            small = least(Machine(signs, rows[signs], [[], [], []]))
            self.assertEqual(small.after(first), 1)
            self.assertEqual(len(small.rows), 3)

    def test_a_least_machine_stays(self):
        for machine in machines(5, 200):
            small = least(machine)
            self.assertEqual(least(small), small)

    def test_copies_of_states_do_not_matter(self):
        dice = random.Random(6)
        for machine in machines(6, 200):
            other = copied_states(dice, machine, dice.randint(1, 8))
            self.assertIsNone(parted(machine, other))
            self.assertEqual(least(other), least(machine))

    def test_states_that_no_text_comes_to(self):
        machine = Machine("ab", [[(0, ["x"]), (2, [])], [(0, []), (2, ["x"])], [(2, []), (0, [])]],
                          [["y"], ["z"], []])
        self.assertEqual(told(least(machine)),
                         ("ab", (((0, ("x",)), (1, ())), ((1, ()), (0, ()))), (("y",), ())))

    def test_states_round_a_ring(self):
        for many in (2, 3, 6, 12, 16):
            for ring in range(1, many + 1):
                # The key comes each ring-th time.
                rows = [[((at + 1) % many, ["x"] if at % ring == ring - 1 else [])] for at in range(many)]
                small = least(Machine("a", rows, [[]] * many))
                self.assertEqual(len(small.rows), ring if many % ring == 0 else many)

    def test_only_the_end_parts(self):
        rows = [[(1, []), (2, [])], [(1, []), (1, [])], [(2, []), (2, [])]]
        self.assertEqual(len(least(Machine("ab", rows, [["x"], ["y"], ["z"]])).rows), 3)
        self.assertEqual(len(least(Machine("ab", rows, [["x"], ["y"], ["y"]])).rows), 2)
        self.assertEqual(len(least(Machine("ab", rows, [["y"], ["y"], ["y"]])).rows), 1)

    def test_only_a_way_parts(self):
        rows = [[(1, []), (2, [])], [(1, ["x"]), (1, [])], [(2, ["x"]), (2, [])]]
        self.assertEqual(len(least(Machine("ab", rows, [["y"]] * 3)).rows), 2)
        rows[2] = [(2, ["x"]), (2, ["y"])]
        self.assertEqual(len(least(Machine("ab", rows, [["y"]] * 3)).rows), 3)

    def test_only_what_is_far_behind_parts(self):
        rows = [[(min(at + 1, 15), [])] for at in range(16)]
        self.assertEqual(len(least(Machine("a", rows, [["x"]] * 15 + [["y"]])).rows), 16)
        self.assertEqual(len(least(Machine("a", rows, [["x"]] * 16)).rows), 1)
        self.assertEqual(len(least(Machine("a", rows[:15] + [[(15, ["k"])]], [["x"]] * 16)).rows), 16)

    def test_keys_that_are_given_sooner_are_not_the_same(self):
        # All texts have the same keys by both, but the ways give them at other times.
        once = Machine("a", [[(1, ["x"])], [(1, [])]], [[], []])
        often = Machine("a", [[(0, ["x"])]], [[]])
        self.assertIsNone(parted(once, often))
        self.assertEqual((least(once), least(often)), (once, often))

    def test_parts(self):
        for machine, many in ((parts.sized("ab", 5), 6), (parts.heads("ab", 2), 7),
                              (parts.counted("ab", "b", 4), 4), (parts.pieces("ab", 2), 5)):
            self.assertEqual(len(least(machine).rows), many)


class Parted(unittest.TestCase):
    def test_against_all_texts(self):
        dice = random.Random(7)
        found = {}
        for machine in machines(7, 500, states=3):
            other = next(machines(dice.random(), 1, signs=(machine.signs[::-1],), states=3))
            if dice.random() < 0.6:
                # A machine that is nearly the same.
                rows = [[[to, list(given)] for to, given in row] for row in machine.rows]
                way = dice.choice(dice.choice(rows))
                way[0] = dice.randrange(len(rows))
                other = Machine(machine.signs, rows, machine.ends)
            most = 9 if len(machine.signs) < 3 else 6
            first = oracle_near.first_of(machine.signs, most,
                                         lambda text: machine.keys_of(text) != other.keys_of(text))
            told_first = parted(machine, other)
            if first is None:
                self.assertTrue(told_first is None or len(told_first) > most)
            else:
                self.assertEqual(told_first, first)
            if told_first is not None:
                self.assertNotEqual(machine.keys_of(told_first), other.keys_of(told_first))
            found[first] = found.get(first, 0) + 1
        self.assertGreater(found[None], 30)
        self.assertGreater(found[""], 30)
        self.assertGreater(len(found), 20)

    def test_no_text(self):
        for machine in machines(8, 100):
            self.assertIsNone(parted(machine, machine))
            self.assertIsNone(parted(machine, least(machine)))

    def test_signs_in_another_order(self):
        # By the first machine's signs ba, b stands ahead of a.
        for signs, first in (("ab", "a"), ("ba", "b")):
            self.assertEqual(parted(Machine.read("signs %s\n0+x 0+y |" % signs), Machine.read("signs ab\n0 0 |")),
                             first)
            other = Machine.read("signs %s\n0 0 |" % signs[::-1])
            self.assertEqual(parted(parts.heads(signs, 1), other), "")
        self.assertIsNone(parted(parts.pieces("ab", 2), parts.pieces("ba", 2)))
        self.assertEqual(parted(parts.lightest("ba", 2, 1), parts.lightest("ab", 2, 1)), "ba")
        self.assertEqual(parted(parts.lightest("ab", 2, 1), parts.lightest("ba", 2, 1)), "ab")

    def test_the_empty_text(self):
        self.assertEqual(parted(Machine("a", [[(0, [])]], [["x"]]), Machine("a", [[(0, [])]], [["y"]])), "")
        self.assertEqual(parted(Machine("a", [[(0, [])]], [["x"]]), Machine("a", [[(0, [])]], [[]])), "")

    def test_a_key_of_one_machine_alone(self):
        one = Machine("ab", [[(0, []), (1, [])], [(1, ["z"]), (0, [])]], [["x"], ["x"]])
        other = Machine("ab", [[(0, []), (0, [])]], [["x"]])
        self.assertEqual((parted(one, other), parted(other, one)), ("ba", "ba"))

    def test_a_key_that_both_got_parts_no_more(self):
        one = Machine("ab", [[(1, ["x"]), (0, [])], [(1, []), (1, [])]], [[], ["x"]])
        other = Machine("ab", [[(1, ["x"]), (0, [])], [(1, []), (1, [])]], [[], []])
        self.assertIsNone(parted(one, other))

    def test_long_texts(self):
        # The text has to have a length that is one less than a multiple of both rings.
        for many, other in ((15, 16), (7, 9), (16, 13)):
            one = Machine("a", [[((at + 1) % many, [])] for at in range(many)],
                          [["x"]] + [["x"]] * (many - 2) + [[]])
            two = Machine("a", [[((at + 1) % other, [])] for at in range(other)],
                          [["x"]] + [["x"]] * (other - 2) + [[]])
            first = next(n for n in range(1000) if (n % many == many - 1) != (n % other == other - 1))
            self.assertEqual(parted(one, two), "a" * first)
        # Only where both are at their last states something is told apart.
        left = Machine("ab", [[((at + 1) % 16, []), (at, [])] for at in range(16)], [["k"]] * 16)
        rows = [[((at + 1) % 16, []), (at, [])] for at in range(15)] + [[(0, []), (15, ["x"])]]
        self.assertEqual(parted(left, Machine("ab", rows, [["k"]] * 16)), "a" * 15 + "b")

    def test_unlike(self):
        for one, other in (("a", "b"), ("ab", "a"), ("ab", "abc"), ("abcd", "abce")):
            self.assertRaises(Unlike, parted, parts.sized(one, 1), parts.sized(other, 1))
            self.assertRaises(Unlike, parted, parts.sized(other, 1), parts.sized(one, 1))
        for one, other in (("ab", "ba"), ("abcd", "dbca")):
            self.assertIsNone(parted(parts.sized(one, 1), parts.sized(other, 1)))


class Firsts(unittest.TestCase):
    def test_silent_against_all_texts(self):
        found = {}
        for machine in machines(9, 500, states=4):
            most = 7 if len(machine.signs) < 3 else 5
            first = oracle_near.first_of(machine.signs, most, lambda text: machine.keys_of(text) == ())
            # A first text comes to no state twice.
            self.assertEqual(silent(machine), first)
            found[first] = found.get(first, 0) + 1
        self.assertGreater(min(found[None], found[""]), 20)
        self.assertGreater(len(found), 6)

    def test_giving_against_all_texts(self):
        found = {}
        for machine in machines(10, 400, states=4):
            most = 7 if len(machine.signs) < 3 else 5
            for key in (*KEYS, "no"):
                first = oracle_near.first_of(machine.signs, most, lambda text: key in machine.keys_of(text))
                self.assertEqual(giving(machine, key), first)
                found[first] = found.get(first, 0) + 1
        self.assertGreater(min(found[None], found[""]), 20)
        self.assertGreater(len(found), 15)

    def test_the_order_of_the_signs(self):
        machine = Machine.read("signs ba\n1 2 | k\n1+x 1 |\n2+x 2 |")
        self.assertEqual((silent(machine), giving(machine, "x")), ("b", "bb"))
        machine = Machine.read("signs ab\n1 2 | k\n1 1+x |\n2 2+x |")
        self.assertEqual((silent(machine), giving(machine, "x")), ("a", "ab"))

    def test_the_empty_text_and_none(self):
        self.assertEqual(silent(Machine("a", [[(0, ["x"])]], [[]])), "")
        self.assertIsNone(silent(Machine("a", [[(0, [])]], [["x"]])))
        self.assertEqual(giving(Machine("a", [[(0, [])]], [["x"]]), "x"), "")
        self.assertIsNone(giving(Machine("a", [[(0, [])], [(0, ["y"])]], [["x"], ["y"]]), "y"))
        # An end that is not the last one is no end.
        self.assertEqual(silent(Machine.read("signs a\n1 | x\n2 | x\n2 |")), "aa")

    def test_long_texts(self):
        for many in (2, 9, 16):
            rows = [[(min(at + 1, many - 1), []), (0, [])] for at in range(many)]
            machine = Machine("ab", rows, [["x"]] * (many - 1) + [[]])
            self.assertEqual(silent(machine), "a" * (many - 1))
            machine = Machine("ab", rows, [["x"]] * (many - 1) + [["x", "y"]])
            self.assertEqual(giving(machine, "y"), "a" * (many - 1))
            rows[-1] = [(0, []), (0, ["z"])]
            self.assertEqual(giving(Machine("ab", rows, [["x"]] * many), "z"), "a" * (many - 1) + "b")

    def test_by_name(self):
        machine = parts.sized("ab", 1)
        self.assertEqual(least(machine=machine), machine)
        self.assertIsNone(parted(other=machine, one=machine))
        self.assertIsNone(silent(machine=machine))
        self.assertEqual(giving(key="n1", machine=machine), "a")

    def test_what_is_handed_in_stays(self):
        for machine in machines(11, 20):
            before = told(machine)
            least(machine), parted(machine, machine), silent(machine), giving(machine, "x")
            self.assertEqual(told(machine), before)
            self.assertEqual(Rule(least(machine)), Rule(least(machine)))


if __name__ == "__main__":
    unittest.main()
