"""[21], [22] and the class Edits of nevermiss/edits.py."""

import itertools
import unittest

import oracle
from nevermiss.edits import Edits
from nevermiss.errors import BadBound, BadColumn, BadEdit, MissError, TooMany

MOST = 10 ** 30
GOOD = [("a", "", 2), ("ab", "ba", 1), ("", "bab", 0), ("bbb", "b", MOST)]
NO_TRIPLES = [None, True, 7, "", "abc", "a", (), [], ("a",), ("a", "b"), ["a", "b"], ("a", "b", 1, 1), [["a", "b", 1]],
              (("a", "b", 1),), (("a", "b"), 1), ("a", "b", 1, None)]
WRONG_SIDES = [None, True, False, 0, 1, (), ("a",), ["a"], [], "c", "ac", "abab", "aaaa", "A", " ", "a ", "\n",
               "\u00e4"]
WRONG_WEIGHTS = [None, True, False, -1, MOST + 1, 10 ** 31, "1", "", (), (1,), [1], []]
OTHER_THINGS = [None, 0, "edits", (), GOOD, ("ab", tuple(GOOD))]


def pairs_of_words(signs, many):
    """Different pairs of unlike words."""
    words = list(oracle.texts(signs, 3))
    pairs = [(u, v) for u, v in itertools.product(words, repeat=2) if u != v]
    return pairs[:many]


class Made(unittest.TestCase):
    def check(self, rows, index):
        for told in (rows, tuple(rows), [list(row) if isinstance(row, tuple) else row for row in rows]):
            with self.assertRaises(BadEdit, msg=repr(rows)) as caught:
                Edits("ab", told)
            self.assertEqual(caught.exception.index, index)

    def test_rows(self):
        edits = Edits("ba", GOOD)
        self.assertEqual((edits.signs, edits.rows), ("ba", tuple(GOOD)))
        self.assertIs(type(edits.rows), tuple)
        self.assertEqual([type(row) for row in edits.rows], [tuple] * 4)
        self.assertEqual([type(part) for part in edits.rows[0]], [str, str, int])
        self.assertEqual((Edits("a", []).rows, Edits("a", ()).rows), ((), ()))

    def test_lists_and_tuples_alike(self):
        for rows in (tuple(GOOD), [list(row) for row in GOOD], tuple([list(row) for row in GOOD])):
            edits = Edits(rows=rows, signs="ba")
            self.assertEqual(edits.rows, tuple(GOOD))
            self.assertEqual([type(row) for row in edits.rows], [tuple] * 4)
            self.assertTrue(edits == Edits("ba", GOOD))

    def test_most_of_all(self):
        rows = [(u, v, at) for at, (u, v) in enumerate(pairs_of_words("ab", 25))]
        self.assertEqual(Edits("ab", rows[:24]).rows, tuple(rows[:24]))
        for told in (rows, tuple(rows), rows + rows):
            with self.assertRaises(TooMany) as caught:
                Edits("ab", told)
            self.assertEqual(caught.exception.what, "edits")

    def test_too_many_ahead_of_bad_edit(self):
        rows = [(u, v, 1) for u, v in pairs_of_words("ab", 24)]
        for wrong in [None, rows[0], ("a", "a", 1), ("a", "b", -1)]:
            for told in ([wrong] + rows, rows + [wrong], [wrong] * 25):
                with self.assertRaises(TooMany) as caught:
                    Edits("ab", told)
                self.assertEqual(caught.exception.what, "edits")
            self.check(rows[:23] + [wrong], 23)
            self.check([None] * 24, 0)

    def test_no_triples(self):
        for wrong in NO_TRIPLES:
            for at in range(len(GOOD) + 1):
                self.check(GOOD[:at] + [wrong] + GOOD[at:], at)

    def test_sides(self):
        for wrong in WRONG_SIDES:
            for row in ((wrong, "b", 1), ("b", wrong, 1), (wrong, "", 1), (wrong, wrong, 1)):
                self.check([row], 0)
                self.check(GOOD + [row], 4)
                self.check([GOOD[0], row] + GOOD[1:], 1)

    def test_weights(self):
        for wrong in WRONG_WEIGHTS:
            self.check([("b", "", wrong)], 0)
            self.check(GOOD + [("b", "", wrong)], 4)
        for right in (0, 1, MOST - 1, MOST):
            self.assertEqual(Edits("ab", [("b", "", right)]).rows, (("b", "", right),))

    def test_equal_words(self):
        for word in ("", "a", "ab", "bab"):
            self.check([(word, word, 1)], 0)
            self.check([("b", "a", 1), (word, word, 0)], 1)

    def test_words_of_up_to_three_signs(self):
        for word in ("a", "ab", "bab", "bbb"):
            self.assertEqual(Edits("ab", [(word, "", 1), ("", word, 1)]).rows, ((word, "", 1), ("", word, 1)))
            self.check([(word, "a" * 4, 1)], 0)
            self.check([("b" * 4, word, 1)], 0)

    def test_what_stands_ahead_already(self):
        self.check([("a", "b", 1), ("a", "b", 1)], 1)
        self.check([("a", "b", 1), ("b", "a", 1), ("a", "b", 2)], 2)
        self.check([("a", "", 1), ("", "a", 1), ("ab", "a", 1), ("", "a", 0)], 3)
        right = [("a", "b", 1), ("b", "a", 1), ("a", "", 1), ("", "a", 1), ("ab", "a", 1), ("a", "ab", 1)]
        self.assertEqual(Edits("ab", right).rows, tuple(right))

    def test_the_first_wrong_row(self):
        wrong = [None, ("a", "a", 1), ("a", "abab", 1), ("a", "c", 1), ("b", "", -1), ("b", "", True), GOOD[0]]
        for first, second in itertools.permutations(wrong, 2):
            self.check([GOOD[0], first, second], 1)
            self.check([GOOD[0], GOOD[1], first, GOOD[2], second], 2)

    def test_letters_are_those_of_the_signs(self):
        self.assertEqual(Edits("zc", [("c", "z", 1)]).rows, (("c", "z", 1),))
        with self.assertRaises(BadEdit) as caught:
            Edits("zc", [("c", "z", 1), ("z", "a", 1)])
        self.assertEqual(caught.exception.index, 1)

    def test_copies(self):
        inner = ["a", "b", 1]
        rows = [inner, ("b", "a", 2)]
        edits = Edits("ab", rows)
        inner[2] = 7
        inner.append("x")
        rows.append(("a", "", 1))
        rows[1] = None
        self.assertEqual(edits.rows, (("a", "b", 1), ("b", "a", 2)))
        self.assertEqual(edits.weighed([0, 1]), 3)


class Plain(unittest.TestCase):
    def test_order(self):
        self.assertEqual(Edits.plain("a", 1, 2, 3).rows, (("", "a", 1), ("a", "", 2)))
        self.assertEqual(Edits.plain("ba", 1, 2, 3).rows, (("", "b", 1), ("", "a", 1), ("b", "", 2), ("a", "", 2),
                                                           ("b", "a", 3), ("a", "b", 3)))
        for signs in ("a", "z", "ba", "cab", "dbca"):
            rows = [("", a, 4) for a in signs] + [(a, "", 0) for a in signs]
            rows += [(a, b, MOST) for a, b in itertools.product(signs, repeat=2) if a != b]
            for edits in (Edits.plain(signs, 4, 0, MOST),
                          Edits.plain(put=MOST, take_out=0, put_in=4, signs=signs)):
                self.assertIsInstance(edits, Edits)
                self.assertEqual((edits.signs, edits.rows), (signs, tuple(rows)))
                self.assertTrue(edits == Edits(signs, rows))

    def test_bad_bound(self):
        for wrong in WRONG_WEIGHTS:
            for at in range(3):
                weights = [1, 2, 3]
                weights[at] = wrong
                for signs in ("a", "cab"):
                    with self.assertRaises(BadBound) as caught:
                        Edits.plain(signs, *weights)
                    self.assertEqual(caught.exception.bound, wrong)
                    self.assertIs(type(caught.exception.bound), type(wrong))

    def test_the_first_bad_bound(self):
        for weights, bound in (((-1, -2, -3), -1), ((1, -2, -3), -2), ((1, 2, -3), -3),
                               ((MOST, MOST + 1, True), MOST + 1)):
            with self.assertRaises(BadBound) as caught:
                Edits.plain("ab", *weights)
            self.assertEqual(caught.exception.bound, bound)


class Changed(unittest.TestCase):
    def test_turned(self):
        edits = Edits("ba", GOOD)
        self.assertEqual(edits.turned().rows, (("", "a", 2), ("ba", "ab", 1), ("bab", "", 0), ("b", "bbb", MOST)))
        self.assertEqual(edits.turned().signs, "ba")
        self.assertTrue(edits.turned().turned() == edits)
        self.assertEqual(edits.rows, tuple(GOOD))
        for columns in oracle.rows_of_columns(edits, 3):
            x, y = edits.texts(columns)
            self.assertEqual(edits.turned().texts(columns), (y, x))
            self.assertEqual(edits.turned().weighed(columns), edits.weighed(columns))

    def test_equal(self):
        one = Edits("ab", GOOD)
        self.assertTrue(one == Edits("ab", [list(row) for row in GOOD]))
        self.assertFalse(one != Edits("ab", GOOD))
        self.assertTrue(Edits("ab", []) == Edits("ab", ()))
        for other in (Edits("ba", GOOD), Edits("abc", GOOD), Edits("ab", GOOD[:3]), Edits("ab", GOOD[::-1]),
                      Edits("ab", GOOD[:3] + [("bbb", "b", 1)]), Edits("ab", GOOD[:3] + [("b", "bbb", MOST)]),
                      one.turned()):
            self.assertFalse(one == other)
            self.assertTrue(one != other)

    def test_no_thing_of_another_kind(self):
        edits = Edits("ab", GOOD)
        for other in OTHER_THINGS + [edits.rows, oracle.part_rules()[0]]:
            self.assertIs(edits == other, False)
            self.assertIs(other == edits, False)
            self.assertIs(edits != other, True)


class Columns(unittest.TestCase):
    def test_texts_and_weighed(self):
        for edits in (Edits("ba", GOOD), Edits.plain("ab", 1, MOST, 0), Edits("a", []),
                      Edits("cab", [("c", "abc", 5)])):
            for columns in oracle.rows_of_columns(edits, 3):
                x, y, weight = oracle.tell(edits, columns)
                for told in (columns, list(columns)):
                    self.assertEqual(edits.texts(told), (x, y))
                    self.assertEqual(edits.weighed(told), weight)
                self.assertIs(type(edits.texts(columns)), tuple)
                self.assertIs(type(edits.weighed(columns)), int)

    def test_plain_ones(self):
        edits = Edits("ab", [("a", "", 2), ("ab", "ba", 1)])
        self.assertEqual((edits.texts(["a", 1, 0]), edits.weighed(["a", 1, 0])), (("aaba", "aba"), 3))
        self.assertEqual((edits.texts(columns=(1, "b", 1)), edits.weighed(columns=(1, "b", 1))),
                         (("abbab", "babba"), 2))
        self.assertEqual((edits.texts([]), edits.weighed(())), (("", ""), 0))
        self.assertEqual((edits.texts([0]), edits.weighed([0] * 1000)), (("a", ""), 2000))

    def test_bad_column(self):
        edits = Edits("ab", GOOD)
        wrongs = [None, True, False, "c", "z", "A", "", "ab", "ba", "aa", "aab", "0", 4, 5, -1, -4, 10 ** 30,
                  -10 ** 30, " "]
        for wrong in wrongs:
            for ahead in ([], ["a"], [0, 3, "b"]):
                for behind in ([], ["b", 2], [None, "c", 9, True]):
                    for columns in (ahead + [wrong] + behind, tuple(ahead + [wrong] + behind)):
                        for ask in (edits.texts, edits.weighed):
                            with self.assertRaises(BadColumn, msg=repr(columns)) as caught:
                                ask(columns)
                            self.assertEqual(caught.exception.index, len(ahead))

    def test_no_edits(self):
        edits = Edits("ab", [])
        self.assertEqual(edits.texts(["a", "b"]), ("ab", "ab"))
        for wrong in (0, -1, 1, True, False):
            with self.assertRaises(BadColumn) as caught:
                edits.texts(["a", wrong])
            self.assertEqual(caught.exception.index, 1)
            self.assertIsInstance(caught.exception, MissError)

    def test_what_is_handed_in_stays(self):
        edits = Edits("ab", GOOD)
        columns = ["a", 1, 0, "b"]
        edits.texts(columns)
        edits.weighed(columns)
        self.assertEqual((columns, edits.rows), (["a", 1, 0, "b"], tuple(GOOD)))


if __name__ == "__main__":
    unittest.main()
