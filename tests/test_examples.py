"""The examples of the interface."""

import doctest
import unittest

EXAMPLES = r"""
>>> from nevermiss.machines import Machine
>>> machine = Machine.read("signs ab\n1 0 |\n1 0+x | y")
>>> (machine.keys_of("aab"), machine.keys_of("ba"), machine.after("ab"), machine.far_keys([("ab", 10 ** 30)]))
(('x',), ('y',), 0, ('x',))

>>> from nevermiss.parts import heads, lightest, pieces
>>> (pieces("ab", 2).keys_of("abba"), heads("ab", 2).keys_of("abba"), lightest("ab", 2, 1).keys_of("bab"))
(('pab', 'pba', 'pbb'), ('fab',), ('ma',))
"""


class Examples(unittest.TestCase):
    def test_examples(self):
        examples = doctest.DocTestParser().get_doctest(EXAMPLES, {}, "examples", None, 0)
        self.assertEqual(doctest.DocTestRunner(verbose=False).run(examples).failed, 0)


if __name__ == "__main__":
    unittest.main()
