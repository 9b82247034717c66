"""[1], [2]: every name of the interface, under its module, with its arguments by position and by name as listed."""

import importlib
import inspect
import unittest

from nevermiss import errors
from nevermiss.choice import Covers, Meetings
from nevermiss.desk import Desk
from nevermiss.edits import Edits
from nevermiss.longest import Endless, Longest
from nevermiss.machines import Machine
from nevermiss.onetext import Miss
from nevermiss.parts import sized
from nevermiss.rules import Rule
from nevermiss.sure import Bad, Lowest, Sure
from nevermiss.tables import Table

LISTED = """
errors: BadText(line) BadMachine(state, place) BadSign(place) BadEdit(index) BadColumn(index) BadBound(bound)
errors: BadKeys(key) BadName(name) TooMany(what) Misses(columns)
rules: Rule(left, right=None) Rule.shared(x, y) Rule.meets(x, y) Rule.narrowed(keys) Rule.turned() Rule.__eq__(other)
edits: Edits(signs, rows) Edits.plain(signs, put_in, take_out, put) Edits.turned() Edits.texts(columns)
edits: Edits.weighed(columns) Edits.__eq__(other)
sure: Bad(columns) Sure(tree) sure(rule, edits, k, *, given=(), wanted=None)
sure: is_bad(rule, edits, k, columns, *, given=(), wanted=None) is_sure(rule, edits, k, tree, *, given=(), wanted=None)
sure: Lowest(weight, columns, tree) lowest(rule, edits, *, given=(), wanted=None)
sure: is_lowest(rule, edits, paper, *, given=(), wanted=None)
longest: Longest(many, columns, tree) Endless(head, ring, tail) longest(rule, edits, k, *, given=(), wanted=None)
longest: is_longest(rule, edits, k, paper, *, given=(), wanted=None)
choice: Meetings(met, enough) meetings(rule, edits, k) least_count(rule, edits, k) is_meetings(rule, edits, k, paper)
choice: Covers(trees) covers(rule, edits, k, one, other) is_covers(rule, edits, k, one, other, paper)
machines: Machine(signs, rows, ends) Machine.keys_of(text) Machine.after(text) Machine.far_keys(blocks)
machines: Machine.read(text) Machine.__eq__(other) Machine.__str__()
parts: heads(signs, n) tails(signs, n) sized(signs, n) counted(signs, sign, modulus) pieces(signs, size)
parts: lightest(signs, places, size) folded(machine, signs, words) beside(one, other) holding(machine, keys)
parts: renamed(machine, names)
same: least(machine) parted(one, other) silent(machine) giving(machine, key)
tables: weight_of(edits, x, y) columns_of(edits, x, y) bar_of(edits, x, y, k) is_bar(edits, x, y, k, places)
tables: Table(signs, rows) Table.near(edits, k) Table.near_text(edits, k, text) Table.found(rule, text)
tables: Table.shelf(rule) Table.missed(rule, edits, k) Table.idle(rule, edits, k) Table.__len__() Table.__eq__(other)
tables: Table.__getitem__(at) Table.__contains__(x) Table.__iter__()
desk: Desk(table, rule, edits, k) Desk.ask(text) Desk.tried(text) Desk.put(name, text) Desk.take(name)
desk: Desk.exchange(rule) Desk.reprice(edits) Desk.widen(k) Desk.undo() Desk.attempt(action) Desk.__len__()
onetext: Miss(weight, columns) miss_of(rule, edits, text) fence_of(rule, edits, text, k)
onetext: is_fence(rule, edits, text, k, places) near_sets(rule, edits, text, k) lacks(rule, edits, text, k)
onetext: risks(table, rule, edits) mended(table, rule, edits, k)
"""


def pieces_of(told):
    """Pairs of a name and its arguments."""
    depth, start, found = 0, 0, []
    for at, letter in enumerate(told):
        depth += {"(": 1, ")": -1}.get(letter, 0)
        if letter == ")" and depth == 0:
            name, arguments = told[start:at].split("(", 1)
            found.append((name.strip(), arguments))
            start = at + 1
    return found


def listed():
    """Triples of a module, a name and its arguments."""
    for line in LISTED.strip().split("\n"):
        stem, told = line.split(": ", 1)
        for name, arguments in pieces_of(told):
            yield stem, name, arguments


def signature_of(thing, is_method):
    parameters = list(inspect.signature(thing).parameters.values())
    return str(inspect.Signature(parameters[1:] if is_method else parameters))[1:-1]


class Interface(unittest.TestCase):
    def test_names_and_arguments(self):
        many = 0
        for stem, name, arguments in listed():
            module = importlib.import_module("nevermiss." + stem)
            owner, _, method = name.partition(".")
            thing = vars(module)[owner]
            self.assertEqual(thing.__module__, "nevermiss." + stem, msg=name)
            if method:
                # In the class itself, not only in a base class.
                self.assertIn(method, vars(thing), msg=name)
                bound = inspect.ismethod(getattr(thing, method))
                self.assertEqual(signature_of(getattr(thing, method), not bound), arguments, msg=name)
            else:
                self.assertEqual(signature_of(thing, False), arguments, msg=name)
            many += 1
        self.assertEqual(many, 97)

    def test_errors_without_fields(self):
        self.assertIsInstance(errors.Unlike(), errors.MissError)
        self.assertIsInstance(errors.NothingLeft(), errors.MissError)
        self.assertRaises(errors.MissError, Desk(Table("a", {}), Rule(sized("a", 0)), Edits("a", []), 0).undo)

    def test_attributes(self):
        machine, edits, table = sized("ab", 1), Edits("ab", [("a", "b", 1)]), Table("ab", {"b": "a"})
        tree = ("leaf", ())
        for thing, names in ((machine, ["signs", "rows", "ends", "all_keys"]),
                             (Rule(machine), ["left", "right", "signs", "all_keys"]), (edits, ["signs", "rows"]),
                             (Bad([0]), ["columns"]), (Sure(tree), ["tree"]),
                             (Lowest(1, [0], tree), ["weight", "columns", "tree"]),
                             (Longest(1, [0], tree), ["many", "columns", "tree"]),
                             (Endless([0], [0], [0]), ["head", "ring", "tail"]), (Meetings([], []), ["met", "enough"]),
                             (Covers([]), ["trees"]), (table, ["signs", "rows"]),
                             (Desk(table, Rule(machine), edits, 0), ["table", "rule", "edits", "bound"]),
                             (Miss(1, [0]), ["weight", "columns"])):
            for name in names:
                self.assertTrue(hasattr(thing, name), msg=(thing, name))

    def test_rows_of_columns_are_told_as_tuples(self):
        row = ["a", 0]
        papers = [Bad(row), Lowest(1, row, None), Longest(1, row, None), Endless(row, row, row), Miss(1, row),
                  errors.Misses(row), Meetings([[["x"], row]], [[["x"], ("leaf", ())]]), Covers([["x", ("leaf", ())]])]
        row.append(1)
        told = ("a", 0)
        self.assertEqual([papers[at].columns for at in (0, 1, 2, 4, 5)], [told] * 5)
        self.assertEqual((papers[3].head, papers[3].ring, papers[3].tail), (told, told, told))
        self.assertEqual((papers[6].met, papers[6].enough), ([(("x",), told)], [(("x",), ("leaf", ()))]))
        self.assertEqual(papers[7].trees, [("x", ("leaf", ()))])
        rows = [["a", "b", 1]]
        edits = Edits("ab", rows)
        rows[0][2] = 5
        rows.append(["b", "", 1])
        self.assertEqual(edits.rows, (("a", "b", 1),))
        ways, ends = [[[0, ["x"]]]], [["y"]]
        machine = Machine("a", ways, ends)
        ways[0][0][1].append("z")
        ends[0].append("z")
        self.assertEqual((machine.rows, machine.ends), ((((0, ("x",)),),), (("y",),)))

    def test_no_equal_things_of_other_kinds(self):
        things = [sized("ab", 1), Rule(sized("ab", 1)), Edits("ab", []), Table("ab", {})]
        for one in things:
            for other in [*things, "ab", ("ab", ()), None, 0, {}]:
                self.assertEqual(one == other, one is other)


if __name__ == "__main__":
    unittest.main()
