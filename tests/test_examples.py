"""The examples of the document."""

import contextlib
import doctest
import io
import pathlib
import re
import unittest

README = pathlib.Path(__file__).resolve().parent.parent / "README.md"

EXAMPLES = r"""
>>> from nevermiss.machines import Machine
>>> machine = Machine.read("signs ab\n1 0 |\n1 0+x | y")
>>> (machine.keys_of("aab"), machine.keys_of("ba"), machine.after("ab"), machine.far_keys([("ab", 10 ** 30)]))
(('x',), ('y',), 0, ('x',))

>>> from nevermiss.parts import heads, lightest, pieces
>>> (pieces("ab", 2).keys_of("abba"), heads("ab", 2).keys_of("abba"), lightest("ab", 2, 1).keys_of("bab"))
(('pab', 'pba', 'pbb'), ('fab',), ('ma',))

>>> from nevermiss.edits import Edits
>>> edits = Edits("ab", [("a", "", 2), ("ab", "ba", 1)])
>>> (edits.texts(["a", 1, 0]), edits.weighed(["a", 1, 0]), len(Edits.plain("ab", 1, 1, 1).rows))
(('aaba', 'aba'), 3, 6)

>>> from nevermiss.edits import Edits
>>> from nevermiss.parts import pieces, sized
>>> from nevermiss.rules import Rule
>>> from nevermiss.sure import is_sure, lowest
>>> edits = Edits.plain("ab", 9, 9, 1)
>>> paper = lowest(Rule(pieces("ab", 2)), edits)
>>> (paper.weight, is_sure(Rule(sized("ab", 0)), edits, 5, ("leaf", ((0, 0, (), 0),))))
(1, True)

>>> from nevermiss.edits import Edits
>>> from nevermiss.longest import Endless, longest
>>> from nevermiss.parts import heads, pieces
>>> from nevermiss.rules import Rule
>>> edits = Edits.plain("ab", 9, 9, 1)
>>> (longest(Rule(pieces("ab", 2)), edits, 1).many, isinstance(longest(Rule(heads("ab", 1)), edits, 1), Endless))
(3, True)

>>> from nevermiss.choice import Covers, covers, meetings
>>> from nevermiss.edits import Edits
>>> from nevermiss.parts import beside, heads, sized
>>> from nevermiss.rules import Rule
>>> edits = Edits.plain("ab", 9, 9, 1)
>>> rule = Rule(beside(heads("ab", 1), sized("ab", 1)))
>>> ([keys for keys, tree in meetings(rule, edits, 0).enough], len(meetings(rule, edits, 1).met))
([('f', 'fa', 'fb'), ('f', 'n1'), ('fa', 'fb', 'n0'), ('n0', 'n1')], 2)
>>> [isinstance(covers(rule, edits, k, ["fa", "fb"], ["n1"]), Covers) for k in (0, 1)]
[True, False]

>>> from nevermiss.parts import pieces, sized
>>> from nevermiss.same import giving, parted, silent
>>> (parted(sized("ab", 2), sized("ab", 3)), giving(pieces("ab", 2), "pbb"), silent(pieces("ab", 2)))
('aaa', 'bb', None)

>>> from nevermiss.edits import Edits
>>> from nevermiss.tables import columns_of, is_bar, weight_of
>>> edits = Edits("ab", [("ab", "ba", 1), ("a", "", 3)])
>>> (weight_of(edits, "aab", "aba"), columns_of(edits, "aab", "aba"), weight_of(edits, "a", "ab"), is_bar(edits, "ba", "b", 2, {(0, 0): 0, (1, 1): 0}))
(1, ('a', 0), None, True)

>>> from nevermiss.edits import Edits
>>> from nevermiss.parts import heads
>>> from nevermiss.rules import Rule
>>> from nevermiss.tables import Table
>>> table = Table("ab", {"one": "aab", "two": "aba", "six": "bb"})
>>> rule = Rule(heads("ab", 1))
>>> (table.near(Edits("ab", [("ab", "ba", 1)]), 1), table.found(rule, "ab"), table.shelf(rule))
((('one', 'two', 1),), ('one', 'two'), {'fa': ('one', 'two'), 'fb': ('six',)})

>>> from nevermiss.desk import Desk
>>> from nevermiss.edits import Edits
>>> from nevermiss.parts import sized
>>> from nevermiss.rules import Rule
>>> from nevermiss.tables import Table
>>> table = Table("ab", {"one": "aab", "two": "aba", "six": "bb"})
>>> desk = Desk(table, Rule(sized("ab", 5)), Edits("ab", [("ab", "ba", 1)]), 4)
>>> (desk.ask("aba"), desk.tried("aba"), len(desk))
(((0, 'two'), (1, 'one')), 2, 0)

>>> from nevermiss.edits import Edits
>>> from nevermiss.onetext import fence_of, lacks, miss_of, near_sets
>>> from nevermiss.parts import heads
>>> from nevermiss.rules import Rule
>>> edits, rule = Edits("ab", [("a", "b", 2), ("b", "", 5)]), Rule(heads("ab", 1))
>>> (miss_of(rule, edits, "ab").weight, [keys for keys, columns in near_sets(rule, edits, "ab", 2)], lacks(rule, edits, "ab", 2))
(2, [('fa',), ('fb',)], [('fb',)])

>>> from nevermiss.edits import Edits
>>> from nevermiss.onetext import fence_of, is_fence, risks
>>> from nevermiss.parts import heads
>>> from nevermiss.rules import Rule
>>> from nevermiss.tables import Table
>>> edits, rule = Edits("ab", [("a", "b", 2), ("b", "", 5)]), Rule(heads("ab", 1))
>>> fence = fence_of(rule, edits, "a", 1)
>>> (is_fence(rule, edits, "a", 1, fence), is_fence(rule, edits, "a", 1, {(0, 0): 0}), risks(Table("ab", {"one": "ab", "two": "b"}), rule, edits))
(True, False, ((2, 'one'), (5, 'two')))
"""


class Examples(unittest.TestCase):
    def test_examples(self):
        examples = doctest.DocTestParser().get_doctest(EXAMPLES, {}, "examples", None, 0)
        self.assertEqual(doctest.DocTestRunner(verbose=False).run(examples).failed, 0)

    def test_readme(self):
        told = io.StringIO()
        with contextlib.redirect_stdout(told):
            exec("\n".join(re.findall("```python\n(.*?)```", README.read_text(encoding="utf-8"), re.S)), {})
        self.assertEqual(told.getvalue(), "(0,)\n3\n1\n")


if __name__ == "__main__":
    unittest.main()
