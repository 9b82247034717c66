"""[3], [4], [5] and the class Machine of nevermiss/machines.py."""

import random
import unittest

import oracle
from nevermiss.errors import BadMachine, BadSign, TooMany
from nevermiss.machines import Machine

KEYS = ["x", "y", "a", "0", "10", "9", "zz", "abcdefghijkl", "k3y", "12ab", "b", "ab"]


def some_machines():
    """Triples (signs, rows, ends): machines of 1 to 16 states over 1 to 4 signs."""
    for signs in oracle.SIGNS:
        for states in range(1, 17):
            for seed in range(2):
                rows, ends = oracle.parts_of_machine(signs, states, KEYS, signs + str(states * 10 + seed))
                yield signs, rows, ends


def power(signs, rows, word, times):
    """For each state: the state behind so many words, and the keys on the way; by squaring."""
    whole = {state: (state, frozenset()) for state in range(len(rows))}
    step = {}
    for state in range(len(rows)):
        to, got = state, set()
        for letter in word:
            to, keys = rows[to][signs.index(letter)]
            got = got | set(keys)
        step[state] = (to, frozenset(got))
    while times:
        if times % 2:
            whole = {state: (step[to][0], got | step[to][1]) for state, (to, got) in whole.items()}
        step = {state: (step[to][0], got | step[to][1]) for state, (to, got) in step.items()}
        times = times // 2
    return whole


def far_keys(signs, rows, ends, blocks):
    state, got = 0, set()
    for word, times in blocks:
        state, keys = power(signs, rows, word, times)[state]
        got = got | keys
    return tuple(sorted(got | set(ends[state])))


class Keys(unittest.TestCase):
    def test_keys_and_states_of_all_short_texts(self):
        for signs, rows, ends in some_machines():
            machine = Machine(signs, rows, ends)
            for text in oracle.texts(signs, {1: 20, 2: 6, 3: 4, 4: 3}[len(signs)]):
                self.assertEqual(machine.keys_of(text), oracle.keys_of(signs, rows, ends, text))
                self.assertEqual(machine.after(text), oracle.after(signs, rows, text))

    def test_keys_and_states_of_longer_texts(self):
        for signs, rows, ends in some_machines():
            machine = Machine(signs, rows, ends)
            for text in oracle.some_texts(signs, 60, 10, 1):
                self.assertEqual(machine.keys_of(text), oracle.keys_of(signs, rows, ends, text))
                self.assertEqual(machine.after(text=text), oracle.after(signs, rows, text))

    def test_a_way_keeps_its_key_and_an_end_does_not(self):
        machine = Machine("ba", [[(0, []), (1, ["w"])], [(0, []), (1, [])]], [["e0"], ["e1"]])
        self.assertEqual(machine.keys_of(""), ("e0",))
        self.assertEqual(machine.keys_of("a"), ("e1", "w"))
        self.assertEqual(machine.keys_of("ab"), ("e0", "w"))
        self.assertEqual(machine.keys_of("b"), ("e0",))
        self.assertEqual((machine.after(""), machine.after("ba"), machine.after("bab")), (0, 1, 0))

    def test_keys_are_told_as_a_tuple_ascending(self):
        machine = Machine("a", [[(0, ["b", "10", "a", "9"])]], [["ab", "a"]])
        self.assertEqual(machine.keys_of("aa"), ("10", "9", "a", "ab", "b"))
        self.assertIs(type(machine.keys_of("aa")), tuple)
        self.assertEqual(machine.keys_of(""), ("a", "ab"))
        bare = Machine("a", [[(0, [])]], [[]])
        self.assertEqual((bare.keys_of("aaa"), bare.all_keys), ((), ()))

    def test_a_long_text(self):
        machine = Machine("ab", [[(1, []), (0, [])], [(1, []), (0, ["x"])]], [[], ["y"]])
        self.assertEqual(machine.keys_of("b" * 100000 + "ab" + "a" * 100000), ("x", "y"))

    def test_equal_calls(self):
        for signs, rows, ends in some_machines():
            self.assertEqual(Machine(signs, rows, ends), Machine(signs, rows, ends))
            break
        machine = Machine(signs, rows, ends)
        self.assertEqual(machine.keys_of(signs), machine.keys_of(signs))


class Made(unittest.TestCase):
    def test_attributes(self):
        machine = Machine("ba", [[(1, ["y", "x", "y"]), [0, ("z",)]], ([1, []], (0, []))], [("q", "p", "q"), []])
        self.assertEqual(machine.signs, "ba")
        self.assertEqual(machine.rows, (((1, ("x", "y")), (0, ("z",))), ((1, ()), (0, ()))))
        self.assertEqual(machine.ends, (("p", "q"), ()))
        self.assertEqual(machine.all_keys, ("p", "q", "x", "y", "z"))
        self.assertIs(type(machine.rows), tuple)
        self.assertIs(type(machine.rows[0]), tuple)
        self.assertIs(type(machine.rows[0][1]), tuple)
        self.assertIs(type(machine.rows[0][0][1]), tuple)
        self.assertIs(type(machine.ends), tuple)
        self.assertIs(type(machine.ends[0]), tuple)
        self.assertIs(type(machine.all_keys), tuple)

    def test_all_keys_have_those_that_no_text_comes_to(self):
        machine = Machine("a", [[(0, [])], [(0, ["far", "x"])]], [["x"], ["end"]])
        self.assertEqual(machine.all_keys, ("end", "far", "x"))

    def test_by_name(self):
        self.assertEqual(Machine(ends=[["x"]], rows=[[(0, [])]], signs="a"), Machine("a", [[(0, [])]], [["x"]]))

    def test_copies(self):
        keys, end = ["x"], ["y"]
        row = [(0, keys)]
        rows, ends = [row], [end]
        machine = Machine("a", rows, ends)
        keys.append("z")
        end.append("z")
        row[0] = (5, [])
        rows.append([(0, [])])
        ends.append([])
        self.assertEqual((machine.rows, machine.ends), ((((0, ("x",)),),), (("y",),)))
        self.assertEqual((machine.keys_of("a"), machine.all_keys), (("x", "y"), ("x", "y")))

    def test_what_is_handed_in_stays(self):
        rows, ends = [[(0, ["z", "y", "z"])]], [["b", "a", "b"]]
        machine = Machine("a", rows, ends)
        machine.keys_of("aa")
        self.assertEqual((rows, ends), ([[(0, ["z", "y", "z"])]], [["b", "a", "b"]]))

    def test_bad_machine(self):
        for wrong in (2, 3, -1, -2, 10 ** 30, True, None, "0"):
            for places in (((0, 0),), ((0, 1),), ((1, 0),), ((1, 1),), ((0, 1), (1, 0)), ((1, 0), (1, 1))):
                rows = [[(0, ["x"]), (1, [])], [(1, []), (0, [])]]
                for state, place in places:
                    rows[state][place] = (wrong, ["y"])
                with self.assertRaises(BadMachine) as caught:
                    Machine("ab", rows, [[], []])
                self.assertEqual((caught.exception.state, caught.exception.place), places[0])

    def test_bad_machine_ahead_of_too_many(self):
        many = ["k%d" % at for at in range(13)]
        with self.assertRaises(BadMachine) as caught:
            Machine("ab", [[(0, many), (0, [])], [(1, []), (2, [])]], [[], []])
        self.assertEqual((caught.exception.state, caught.exception.place), (1, 1))
        with self.assertRaises(TooMany) as caught:
            Machine("ab", [[(0, many), (0, [])], [(1, []), (1, [])]], [[], []])
        self.assertEqual(caught.exception.what, "keys")

    def test_twelve_keys(self):
        twelve = ["k%d" % at for at in range(12)]
        machine = Machine("ab", [[(0, twelve[:6] * 2), (0, twelve[3:8])]], [twelve])
        self.assertEqual(machine.all_keys, tuple(sorted(twelve)))
        for rows, ends in (([[(0, twelve), (0, ["more"])]], [[]]), ([[(0, twelve[:7]), (0, [])]], [twelve[6:] + ["z"]]),
                           ([[(0, twelve), (0, [])], [(0, []), (0, [])]], [[], ["z"]])):
            with self.assertRaises(TooMany) as caught:
                Machine("ab", rows, ends)
            self.assertEqual(caught.exception.what, "keys")

    def test_somewhat_beyond_the_limits(self):
        row = [(state + 1, ["x" * 13] if state == 16 else []) for state in range(17)] + [(17, [])]
        machine = Machine("a", [[way] for way in row], [[]] * 18)
        self.assertEqual((machine.keys_of("a" * 16), machine.keys_of("a" * 17)), ((), ("x" * 13,)))
        wide = Machine("edcba", [[(0, [sign]) for sign in "edcba"]], [[]])
        self.assertEqual(wide.keys_of("ae"), ("a", "e"))


class Equal(unittest.TestCase):
    def test_equal(self):
        one = Machine("ab", [[(0, ["x", "y"]), (0, [])]], [["z", "z"]])
        self.assertTrue(one == Machine("ab", (([0, ("y", "x", "x")], (0, ())),), (("z",),)))
        self.assertFalse(one != Machine("ab", [[(0, ["y", "x"]), (0, [])]], [["z"]]))
        for other in (Machine("ba", [[(0, ["x", "y"]), (0, [])]], [["z"]]),
                      Machine("ac", [[(0, ["x", "y"]), (0, [])]], [["z"]]),
                      Machine("ab", [[(0, ["x"]), (0, [])]], [["z"]]),
                      Machine("ab", [[(0, ["x", "y"]), (0, ["x"])]], [["z"]]),
                      Machine("ab", [[(0, ["x", "y"]), (0, [])]], [["y"]]),
                      Machine("ab", [[(0, ["x", "y"]), (0, [])]], [[]]),
                      Machine("ab", [[(0, ["x", "y"]), (0, [])], [(0, []), (0, [])]], [["z"], []])):
            self.assertFalse(one == other)
            self.assertTrue(one != other)

    def test_next_states_count(self):
        rows = [[(1, [])], [(0, [])]]
        other = [[(1, [])], [(1, [])]]
        self.assertFalse(Machine("a", rows, [[], []]) == Machine("a", other, [[], []]))

    def test_no_thing_of_another_kind(self):
        class Like:
            signs, rows, ends, all_keys = "a", (((0, ()),),), ((),), ()

            def __eq__(self, other):
                return NotImplemented

        machine = Machine("a", [[(0, [])]], [[]])
        for other in (None, 0, "signs a\n0 |", str(machine), machine.rows, ("a", machine.rows, machine.ends), Like()):
            self.assertIs(machine == other, False)
            self.assertIs(other == machine, False)
            self.assertIs(machine != other, True)


class Wrong(unittest.TestCase):
    def test_bad_sign(self):
        machine = Machine("ba", [[(0, []), (1, ["x"])], [(1, []), (0, [])]], [[], []])
        for text, place in (("c", 0), ("abc", 2), ("acbc", 1), ("aB", 1), ("a b", 1), ("ab\n", 2), ("\u00e4a", 0),
                            ("a" * 1000 + "x" + "a", 1000), ("1", 0)):
            for ask in (machine.keys_of, machine.after):
                with self.assertRaises(BadSign) as caught:
                    ask(text)
                self.assertEqual(caught.exception.place, place)
        self.assertEqual((machine.keys_of("ab"), machine.after("ab")), (("x",), 1))


class Far(unittest.TestCase):
    def test_short_blocks(self):
        dice = random.Random(5)
        for signs, rows, ends in some_machines():
            machine = Machine(signs, rows, ends)
            for _ in range(6):
                blocks = [("".join(dice.choice(signs) for _ in range(dice.randint(0, 4))), dice.choice((0, 1, 2, 3, 20)))
                          for _ in range(dice.randint(0, 4))]
                text = "".join(word * times for word, times in blocks)
                self.assertEqual(machine.far_keys(blocks), oracle.keys_of(signs, rows, ends, text))
                self.assertEqual(machine.far_keys(tuple([list(block) for block in blocks])), machine.keys_of(text))

    def test_no_block_empty_words_no_times(self):
        machine = Machine("ab", [[(1, ["x"]), (0, ["b"])], [(0, []), (1, [])]], [["e"], ["o"]])
        self.assertEqual(machine.far_keys([]), ("e",))
        self.assertEqual(machine.far_keys(()), ("e",))
        self.assertEqual(machine.far_keys([("", 10 ** 30), ("", 0), ("a", 0)]), ("e",))
        self.assertEqual(machine.far_keys([("a", 1), ("", 5), ("b", 0)]), ("o", "x"))
        self.assertEqual(machine.far_keys(blocks=[["a", 10 ** 30 - 1]]), ("o", "x"))
        self.assertIs(type(machine.far_keys([])), tuple)

    def test_large_times(self):
        dice = random.Random(9)
        for signs, rows, ends in some_machines():
            machine = Machine(signs, rows, ends)
            for _ in range(6):
                blocks = [("".join(dice.choice(signs) for _ in range(dice.randint(0, 3))),
                           dice.choice((0, 1, 7, 16, 17, 10 ** 30, 10 ** 30 - 1, dice.randint(0, 10 ** 30))))
                          for _ in range(dice.randint(1, 4))]
                self.assertEqual(machine.far_keys(blocks), far_keys(signs, rows, ends, blocks))

    def test_each_number_of_times_behind_a_way_in(self):
        # States 0, 1, 2 are passed once, 3 .. 7 come round.
        rows = [[(to, ["w%d" % to])] for to in (1, 2, 3, 4, 5, 6, 7, 3)]
        machine = Machine("a", rows, [["e%d" % (state % 3)] for state in range(8)])
        for word in ("a", "aa", "aaa"):
            for times in range(40):
                self.assertEqual(machine.far_keys([(word, times)]), machine.keys_of(word * times))
                far = times + 5 * 10 ** 29
                self.assertEqual(machine.far_keys([(word, far)]), far_keys("a", rows, machine.ends, [(word, far)]))

    def test_cut_otherwise(self):
        dice = random.Random(3)
        for signs, rows, ends in some_machines():
            machine = Machine(signs, rows, ends)
            word = "".join(dice.choice(signs) for _ in range(3))
            times = 6 * dice.randint(0, 10 ** 29)
            told = machine.far_keys([(word, times), (signs, 3)])
            half = dice.randint(0, times)
            for blocks in ([(word, half), (word, times - half), (signs, 3)],
                           [("", 4), (word * 2, times // 2), (signs * 3, 1)],
                           [(word * 3, times // 3), (signs[0], 1), (signs[1:], 1), (signs, 2)],
                           [(word, times), ("", 10 ** 30), (signs, 1), (signs, 0), (signs, 2)]):
                self.assertEqual(machine.far_keys(blocks), told)
            if times:
                turned = [(word[0], 1), (word[1:] + word[0], times - 1), (word[1:], 1), (signs, 3)]
                self.assertEqual(machine.far_keys(turned), told)


if __name__ == "__main__":
    unittest.main()
