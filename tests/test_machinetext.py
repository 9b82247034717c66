"""[6] Texts of machines, written and read."""

import unittest

import oracle
from nevermiss.errors import BadText, TooMany
from nevermiss.machines import Machine

EXAMPLE = "signs ab\n1 0 |\n1 0+x | y"
KEYS = ["x", "y", "a", "0", "10", "9", "zz", "abcdefghijkl", "k3y", "12ab", "b", "ab"]


class Written(unittest.TestCase):
    def test_the_example(self):
        machine = Machine("ab", [[(1, []), (0, [])], [(1, []), (0, ["x"])]], [[], ["y"]])
        self.assertEqual(str(machine), EXAMPLE)
        self.assertEqual(Machine.read(EXAMPLE), machine)

    def test_several_keys(self):
        machine = Machine("ba", [[(0, ["y", "10", "9"]), (0, [])]], [["c", "a", "b"]])
        self.assertEqual(str(machine), "signs ba\n0+10+9+y 0 | a b c")

    def test_states_of_two_digits(self):
        rows = [[((state + 1) % 16, ["x"] if state == 9 else [])] for state in range(16)]
        lines = str(Machine("q", rows, [[]] * 16)).split("\n")
        self.assertEqual(lines[:2] + lines[9:12] + lines[16:],
                         ["signs q", "1 |", "9 |", "10+x |", "11 |", "0 |"])

    def test_read_again(self):
        for signs in oracle.SIGNS:
            for states in range(1, 17):
                rows, ends = oracle.parts_of_machine(signs, states, KEYS, signs + str(states))
                machine = Machine(signs, rows, ends)
                text = str(machine)
                self.assertEqual(Machine.read(text), machine)
                self.assertEqual(str(Machine.read(text=text)), text)
                self.assertIsInstance(Machine.read(text), Machine)


class Read(unittest.TestCase):
    def wrong(self, text, line):
        with self.assertRaises(BadText, msg=repr(text)) as caught:
            Machine.read(text)
        self.assertEqual(caught.exception.line, line, msg=repr(text))

    def test_more_spaces(self):
        self.assertEqual(Machine.read("  signs   ab  \n 1    0 |\n1 0+x   |   y   "), Machine.read(EXAMPLE))

    def test_keys_in_any_order(self):
        self.assertEqual(Machine.read("signs a\n0+y+x+10 | d b c"), Machine("a", [[(0, ["10", "x", "y"])]],
                                                                            [["b", "c", "d"]]))

    def test_the_same_key_on_ways_and_at_ends(self):
        self.assertEqual(Machine.read("signs ab\n0+x 0+x | x"), Machine("ab", [[(0, ["x"]), (0, ["x"])]], [["x"]]))

    def test_limits_that_are_right(self):
        self.assertEqual(Machine.read("signs dcba\n0+abcdefghijkl 0 0 0 | 0123456789ab").all_keys,
                         ("0123456789ab", "abcdefghijkl"))
        sixteen = "\n".join(["signs z"] + ["15 |"] * 16)
        self.assertEqual(len(Machine.read(sixteen).rows), 16)

    def test_wrong_signs(self):
        for line in ("", " ", "signs", "signs ", "sign ab", "Signs ab", "ab", "ab signs", "signs ab c", "signs aa",
                     "signs aba", "signs abcde", "signs aB", "signs a1", "signs a|", "signs\tab", "signs ab\r",
                     "signs\u00a0ab", "signs \u00e4", "signsab", "\ufeffsigns ab", "signs ab\t", "signs ab |"):
            self.wrong(line + "\n0 0 |", 1)
            self.wrong(line, 1)
            self.wrong(line + "\n", 1)

    def test_no_line_for_a_state(self):
        self.wrong("signs ab", 2)
        self.wrong(" signs  ab ", 2)
        self.wrong("", 1)

    def test_empty_lines(self):
        self.wrong("signs ab\n", 2)
        self.wrong("signs ab\n\n0 0 |", 2)
        self.wrong("signs ab\n0 0 |\n", 3)
        self.wrong("signs ab\n0 0 |\n\n", 3)
        self.wrong("signs ab\n0 0 |\n   \n0 0 |", 3)
        self.wrong("\nsigns ab\n0 0 |", 1)
        self.wrong(EXAMPLE + "\n", 4)
        self.wrong("\n", 1)

    def test_wrong_ways(self):
        for way in ("00", "01", "2", "9", "16", "-1", "-0", "+", "+0", "+x", "x", "0x", "0+", "0++x", "0+x+", "0+X",
                    "0+x+x", "0+y+x+y", "0+a_b", "0+abcdefghijklm", "0+\u00e4", "0.0", "1e0", "1_0", "0 +x", "0+ x",
                    "\u0661", "\uff11", "\u00b2", "9" * 5000, "0" * 5000, "1\t", "0x0", "0|", "|", "0-x", "0+x\t"):
            self.wrong("signs ab\n1 0 |\n%s 0 | y" % way, 3)
            self.wrong("signs ab\n1 0 |\n0 %s | y" % way, 3)
            self.wrong("signs ab\n%s 0 |\n0 0 |" % way, 2)

    def test_wrong_numbers_of_ways(self):
        for line in ("|", "0 |", "0 0 0 |", "0 0", "0", "0 0 0", "| 0 0", "0 | 0", "0 0 x", "0 0 + |", "0 0| x",
                     "0 0|", "0 0 |x", "0 0 || x", "0 0 | |", "0 0 | x |", "| 0 0 |", "x", "00|"):
            self.wrong("signs ab\n%s" % line, 2)
            self.wrong("signs ab\n1 0 |\n%s\n0 0 |" % line, 3)

    def test_wrong_ends(self):
        for end in ("x x", "x y x", "X", "x+y", "+x", "a.b", "abcdefghijklm", "\u00e4", "x\ty", "-", "x,y", "x\r"):
            self.wrong("signs ab\n1 0 | %s\n0 0 |" % end, 2)
            self.wrong("signs ab\n1 0 |\n0 0 | %s" % end, 3)

    def test_the_first_wrong_line(self):
        self.wrong("signs aa\n9 |\n", 1)
        self.wrong("signs ab\n0 0 |\n0 |\n5 0 |\n", 3)
        self.wrong("signs ab\n0 9 |\n0 |", 2)
        self.wrong("signs ab\n0 0 | x x\n0 0 | X\n", 2)

    def test_wrong_lines_are_states_too(self):
        self.wrong("signs a\n1 |\nwrong", 3)
        self.wrong("signs a\n1 |\n", 3)
        self.wrong("signs a\n2 |\n1 |\n", 4)
        self.wrong("signs a\n3 |\n1 |\n", 2)
        self.wrong("signs a\n1 |", 2)

    def test_more_than_sixteen_states(self):
        self.wrong("\n".join(["signs a"] + ["0 |"] * 17), 18)
        self.wrong("\n".join(["signs a"] + ["0 |"] * 40), 18)
        self.wrong("\n".join(["signs a"] + ["0 |"] * 16) + "\n", 18)
        self.wrong("\n".join(["signs a"] + ["0 |"] * 16) + "\nwrong\nwrong", 18)

    def test_lines_behind_the_sixteenth_state_are_states_too(self):
        self.wrong("\n".join(["signs a"] + ["16 |"] * 17), 18)
        self.wrong("\n".join(["signs a"] + ["19 |"] * 20), 18)
        self.wrong("\n".join(["signs a"] + ["0 |", "17 |"] + ["0 |"] * 15), 3)
        self.wrong("\n".join(["signs a"] + ["0 |"] * 15 + ["20 |"] * 5), 17)

    def test_too_many_keys_behind_bad_text(self):
        ways = "+".join("k%d" % at for at in range(12))
        self.assertEqual(len(Machine.read("signs a\n0+%s | k0" % ways).all_keys), 12)
        self.assertEqual(len(Machine.read("signs a\n0 | %s" % ways.replace("+", " ")).all_keys), 12)
        for text in ("signs a\n0+%s | z" % ways, "signs a\n0+%s |\n0+z |" % ways,
                     "signs a\n0 |\n0 | %s z" % ways.replace("+", " ")):
            with self.assertRaises(TooMany) as caught:
                Machine.read(text)
            self.assertEqual(caught.exception.what, "keys")
        self.wrong("signs a\n0+%s | z\n" % ways, 3)
        self.wrong("signs a\n0+%s | z\n0 | z z" % ways, 3)
        self.wrong("signs a\n0+%s | z\n" % ways + "\n".join(["0 |"] * 16), 18)


if __name__ == "__main__":
    unittest.main()
