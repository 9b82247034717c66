"""[30] to [34], [40], [41], [50], [51]: the errors of the functions that ask about all texts, in their order."""

import itertools
import unittest

from nevermiss.choice import Covers, Meetings, covers, is_covers, is_meetings, least_count, meetings
from nevermiss.edits import Edits
from nevermiss.errors import BadBound, BadColumn, BadKeys, TooMany, Unlike
from nevermiss.longest import Endless, Longest, is_longest, longest
from nevermiss.parts import beside, heads, pieces, sized
from nevermiss.rules import Rule
from nevermiss.sure import Lowest, is_bad, is_lowest, is_sure, lowest, sure

# The keys are f, fa, fb, n0, n1.
RULE = Rule(beside(heads("ab", 1), sized("ab", 1)))
EDITS = Edits("ba", [("a", "b", 1), ("", "ab", 0)])
TREE = ("leaf", ((0, 0, (), 0),))
FAR_TREE = ("leaf", ((0, 0, (), 0, None),))
ROW = ("a", 0, 1)

# Each takes rule, edits, k, given, wanted and a row of columns.
KEYED = {
    "sure": lambda r, e, k, g, w, row: sure(r, e, k, given=g, wanted=w),
    "is_bad": lambda r, e, k, g, w, row: is_bad(r, e, k, row, given=g, wanted=w),
    "is_sure": lambda r, e, k, g, w, row: is_sure(r, e, k, TREE, given=g, wanted=w),
    "lowest": lambda r, e, k, g, w, row: lowest(r, e, given=g, wanted=w),
    "is_lowest": lambda r, e, k, g, w, row: is_lowest(r, e, Lowest(1, row, TREE), given=g, wanted=w),
    "is_lowest without a weight": lambda r, e, k, g, w, row: is_lowest(r, e, Lowest(None, row, TREE), given=g,
                                                                       wanted=w),
    "is_lowest without a tree": lambda r, e, k, g, w, row: is_lowest(r, e, Lowest(5, row, None), given=g, wanted=w),
    "longest": lambda r, e, k, g, w, row: longest(r, e, k, given=g, wanted=w),
    "is_longest": lambda r, e, k, g, w, row: is_longest(r, e, k, Longest(2, row, FAR_TREE), given=g, wanted=w),
    "is_longest without many": lambda r, e, k, g, w, row: is_longest(r, e, k, Longest(None, row, FAR_TREE), given=g,
                                                                     wanted=w),
    "is_longest endless": lambda r, e, k, g, w, row: is_longest(r, e, k, Endless(row[:1], row[1:2], row[2:]), given=g,
                                                                wanted=w),
}
# Each takes rule, edits, k, one, other and a row of columns.
CHOOSING = {
    "meetings": lambda r, e, k, one, other, row: meetings(r, e, k),
    "least_count": lambda r, e, k, one, other, row: least_count(r, e, k),
    "is_meetings": lambda r, e, k, one, other, row: is_meetings(r, e, k, Meetings([(("f",), row)], [])),
    "is_meetings with a set that is none": lambda r, e, k, one, other, row: is_meetings(
        r, e, k, Meetings([(("f", "?"), ("a",)), ((), row), ((), row[1:])], [])),
    "covers": lambda r, e, k, one, other, row: covers(r, e, k, one, other),
    "is_covers": lambda r, e, k, one, other, row: is_covers(r, e, k, one, other, Covers([])),
}
STRANGE = [None, True, False, 0, 5, "q", "", "F", "fab", (), ("f",), [], ["f"], ("f", "fa")]


def within(name):
    """The greatest bound, and whether there may be none."""
    return 30 if "longest" in name else 10 ** 40


def has_bound(name):
    return "lowest" not in name


def has_row(name):
    return name.startswith("is_") and name not in ("is_sure", "is_covers")


class Errors(unittest.TestCase):
    def check(self, call, kind, field=None, value=None):
        with self.assertRaises(kind) as caught:
            call()
        self.assertIs(type(caught.exception), kind)
        if field is not None:
            self.assertEqual(getattr(caught.exception, field), value)
            self.assertIs(type(getattr(caught.exception, field)), type(value))

    def test_no_error(self):
        for name, ask in {**KEYED, **CHOOSING}.items():
            for given in ((), [], ("n1",), ["n1", "f"]):
                for wanted in (None, [], ("fa",), ["n0", "fb", "fa"]):
                    if name in KEYED or wanted is not None:
                        ask(RULE, EDITS, 3, given, wanted, ROW)
                        ask(RULE, Edits("ab", EDITS.rows), 0, given, wanted, list(ROW))

    def test_unlike(self):
        for name, ask in {**KEYED, **CHOOSING}.items():
            for signs in ("a", "b", "abc", "ac", "cab"):
                self.check(lambda: ask(RULE, Edits(signs, []), 1, (), (), ()), Unlike)

    def test_bad_bound(self):
        for name, ask in {**KEYED, **CHOOSING}.items():
            if has_bound(name):
                most = within(name)
                wrong = [-1, -10 ** 40, most + 1, 10 ** 41, True, False, "1", "", (), (1,), [1]]
                for k in wrong + ([None] if most == 30 else []):
                    self.check(lambda: ask(RULE, EDITS, k, (), (), ROW), BadBound, "bound", k)
                for k in [0, 1, most - 1, most] + ([] if most == 30 else [None]):
                    ask(RULE, EDITS, k, (), (), ROW)

    def test_no_bound_for_lowest(self):
        self.assertRaises(TypeError, lowest, RULE, EDITS, 5)

    def test_too_many_given(self):
        for name, ask in KEYED.items():
            for given in (("f", "fa", "fb"), ["f", "fa", "fb", "n0"], ["f", "f", "f"], [None, "?", True],
                          ("f", "fa", None)):
                for wanted in (None, (), ["f"], ["?"]):
                    self.check(lambda: ask(RULE, EDITS, 1, given, wanted, ROW), TooMany, "what", "given")

    def test_bad_keys_that_are_strange(self):
        for name, ask in KEYED.items():
            for strange in STRANGE:
                for given, wanted in (((strange,), None), ((strange,), ()), (["f", strange], None),
                                      ([strange, "f"], ["fa"]),
                                      ([strange, "?"], ["??"]), ((), (strange,)), ((), ["f", strange, "?"]),
                                      (["f"], ["fa", "fb", strange]), (["f", "n0"], [strange, "fa", "fa"])):
                    self.check(lambda: ask(RULE, EDITS, 1, given, wanted, ROW), BadKeys, "key", strange)

    def test_bad_keys_that_stand_ahead(self):
        for name, ask in KEYED.items():
            for given, wanted, key in ((["f", "f"], None, "f"), (("f", "f"), ["f"], "f"), (["f"], ["f"], "f"),
                                       (["fa", "f"], ["n0", "f", "fa"], "f"), ((), ["n0", "f", "fa", "f", "n0"], "f"),
                                       (["n0"], ["f", "n0", "f"], "n0"), (["n0", "n0"], ["?"], "n0"),
                                       (["f"], ["fa", "f", "?"], "f"), (["f"], ["fa", "?", "f"], "?")):
                self.check(lambda: ask(RULE, EDITS, 1, given, wanted, ROW), BadKeys, "key", key)

    def test_keys_of_one_machine_are_keys_of_the_rule(self):
        rule = Rule(pieces("ab", 1), sized("ab", 1))
        for name, ask in KEYED.items():
            ask(rule, EDITS, 1, ("n0", "pa"), ("n1", "pb"), ROW)
            self.check(lambda: ask(rule, EDITS, 1, ("f",), (), ROW), BadKeys, "key", "f")

    def test_bad_keys_of_covers(self):
        for ask in (CHOOSING["covers"], CHOOSING["is_covers"]):
            for strange in STRANGE:
                for one, other in (([strange], ["f"]), (("f", strange), ["?"]), ([strange, "?"], []),
                                   (["f"], ["f", strange]),
                                   ((), (strange, None)), (["f", "fa"], [strange, "f", "f"])):
                    self.check(lambda: ask(RULE, EDITS, 1, one, other, ()), BadKeys, "key", strange)
            for one, other, key in ((["f", "fa", "f"], ["fb", "fb"], "f"), (["f"], ["fb", "fa", "fb", "fa"], "fb"),
                                    (("f", "f"), (), "f"), ((), ("f", "f"), "f"), (["f", "fa", "fa"], ["?"], "fa")):
                self.check(lambda: ask(RULE, EDITS, 1, one, other, ()), BadKeys, "key", key)
            for one, other in ((["f"], ["f"]), (["f", "fa", "fb", "n0", "n1"], ("n1", "fa", "f")), ((), ())):
                ask(RULE, EDITS, 1, one, other, ())

    def test_bad_column(self):
        for name, ask in {**KEYED, **CHOOSING}.items():
            if has_row(name):
                for wrong in (None, True, False, "c", "ab", "", 2, -1, 10 ** 30):
                    for at in range(4):
                        row = ["a", 0, 1]
                        row[at:at] = [wrong]
                        for columns in (row, row + [None], row + ["x", 5]):
                            self.check(lambda: ask(RULE, EDITS, 1, (), (), tuple(columns)), BadColumn, "index", at)
                            self.check(lambda: ask(RULE, EDITS, 1, (), (), columns), BadColumn, "index", at)

    def test_order(self):
        for name, ask in {**KEYED, **CHOOSING}.items():
            flaws = [Unlike]
            if has_bound(name):
                flaws.append(BadBound)
            if name in KEYED:
                flaws.append(TooMany)
            if name in KEYED or "covers" in name:
                flaws.append(BadKeys)
            if has_row(name):
                flaws.append(BadColumn)
            for many in range(1, len(flaws) + 1):
                for due in itertools.combinations(flaws, many):
                    given = ["f", "fa", "fb"] if TooMany in due else ["f"]
                    wanted = ["fb", "?"] if BadKeys in due else ["n0"]
                    self.check(lambda: ask(RULE, Edits("abc", []) if Unlike in due else EDITS,
                                           -1 if BadBound in due else 1,
                                           given, wanted, ("a", None) if BadColumn in due else ("a",)), due[0])

    def test_what_is_handed_in_stays(self):
        for name, ask in {**KEYED, **CHOOSING}.items():
            given, wanted, row = ["n1"], ["fb", "fa"], ["a", 0, 1]
            ask(RULE, EDITS, 1, given, wanted, row)
            self.assertEqual((given, wanted, row), (["n1"], ["fb", "fa"], ["a", 0, 1]))

    def test_behind_the_star_by_name_only(self):
        for ask, own in ((sure, (3,)), (is_bad, (3, ROW)), (is_sure, (3, TREE)), (lowest, ()),
                         (is_lowest, (Lowest(1, ROW, TREE),)),
                         (longest, (3,)), (is_longest, (3, Longest(2, ROW, FAR_TREE)))):
            ask(RULE, EDITS, *own)
            ask(RULE, EDITS, *own, wanted=["f"], given=["n0"])
            self.assertRaises(TypeError, ask, RULE, EDITS, *own, ["n0"])
            self.assertRaises(TypeError, ask, RULE, EDITS, *own, ["n0"], ["f"])

    def test_by_name(self):
        sure(edits=EDITS, k=3, rule=RULE)
        is_bad(columns=ROW, edits=EDITS, k=3, rule=RULE)
        is_sure(tree=TREE, edits=EDITS, k=3, rule=RULE)
        lowest(edits=EDITS, rule=RULE)
        is_lowest(paper=Lowest(tree=TREE, columns=ROW, weight=1), edits=EDITS, rule=RULE)
        longest(edits=EDITS, k=3, rule=RULE)
        is_longest(paper=Longest(tree=FAR_TREE, columns=ROW, many=2), edits=EDITS, k=3, rule=RULE)
        is_longest(paper=Endless(tail=(), ring=("a",), head=()), edits=EDITS, k=3, rule=RULE)
        meetings(k=3, edits=EDITS, rule=RULE)
        least_count(k=3, edits=EDITS, rule=RULE)
        is_meetings(paper=Meetings(enough=[], met=[]), k=3, edits=EDITS, rule=RULE)
        covers(other=["f"], one=["fa"], k=3, edits=EDITS, rule=RULE)
        is_covers(paper=Covers(trees=[]), other=["f"], one=["fa"], k=3, edits=EDITS, rule=RULE)


if __name__ == "__main__":
    unittest.main()
