"""The examples of the interface and of points 22, 34, 41 and 51."""

import contextlib
import doctest
import io
import pathlib
import re
import unittest

README = pathlib.Path(__file__).resolve().parent.parent / "README.md"

EXAMPLES = r"""
>>> from nevermiss.machines import Machine
>>> machine = Machine.read("signs ab\n1 0 |\n1 0+x | y")
>>> (machine.keys_of("aab"), machine.keys_of("ba"), machine.after("ab"), machine.far_keys([("ab", 10 ** 30)]))
(('x',), ('y',), 0, ('x',))

>>> from nevermiss.parts import heads, lightest, pieces
>>> (pieces("ab", 2).keys_of("abba"), heads("ab", 2).keys_of("abba"), lightest("ab", 2, 1).keys_of("bab"))
(('pab', 'pba', 'pbb'), ('fab',), ('ma',))

>>> from nevermiss.edits import Edits
>>> edits = Edits("ab", [("a", "", 2), ("ab", "ba", 1)])
>>> (edits.texts(["a", 1, 0]), edits.weighed(["a", 1, 0]), len(Edits.plain("ab", 1, 1, 1).rows))
(('aaba', 'aba'), 3, 6)

>>> from nevermiss.edits import Edits
>>> from nevermiss.parts import pieces, sized
>>> from nevermiss.rules import Rule
>>> from nevermiss.sure import is_sure, lowest
>>> edits = Edits.plain("ab", 9, 9, 1)
>>> paper = lowest(Rule(pieces("ab", 2)), edits)
>>> (paper.weight, is_sure(Rule(sized("ab", 0)), edits, 5, ("leaf", ((0, 0, (), 0),))))
(1, True)

>>> from nevermiss.edits import Edits
>>> from nevermiss.longest import Endless, longest
>>> from nevermiss.parts import heads, pieces
>>> from nevermiss.rules import Rule
>>> edits = Edits.plain("ab", 9, 9, 1)
>>> (longest(Rule(pieces("ab", 2)), edits, 1).many, isinstance(longest(Rule(heads("ab", 1)), edits, 1), Endless))
(3, True)

>>> from nevermiss.choice import Covers, covers, meetings
>>> from nevermiss.edits import Edits
>>> from nevermiss.parts import beside, heads, sized
>>> from nevermiss.rules import Rule
>>> edits = Edits.plain("ab", 9, 9, 1)
>>> rule = Rule(beside(heads("ab", 1), sized("ab", 1)))
>>> ([keys for keys, tree in meetings(rule, edits, 0).enough], len(meetings(rule, edits, 1).met))
([('f', 'fa', 'fb'), ('f', 'n1'), ('fa', 'fb', 'n0'), ('n0', 'n1')], 2)
>>> [isinstance(covers(rule, edits, k, ["fa", "fb"], ["n1"]), Covers) for k in (0, 1)]
[True, False]
"""


class Examples(unittest.TestCase):
    def test_examples(self):
        examples = doctest.DocTestParser().get_doctest(EXAMPLES, {}, "examples", None, 0)
        self.assertEqual(doctest.DocTestRunner(verbose=False).run(examples).failed, 0)

    def test_readme(self):
        told = io.StringIO()
        with contextlib.redirect_stdout(told):
            exec("\n".join(re.findall("```python\n(.*?)```", README.read_text(encoding="utf-8"), re.S)), {})
        self.assertEqual(told.getvalue(), "3\n1\n")


if __name__ == "__main__":
    unittest.main()
