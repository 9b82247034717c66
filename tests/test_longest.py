"""[40], [41]: longest and is_longest of nevermiss/longest.py."""

import random
import unittest

import oracle
from nevermiss.edits import Edits
from nevermiss.longest import Endless, Longest, is_longest, longest
from nevermiss.machines import Machine
from nevermiss.parts import beside, heads, pieces, sized
from nevermiss.rules import Rule
from nevermiss.sure import Sure, sure

DEAD = ("leaf", ((0, 0, (), 0, None),))


def is_right(rule, edits, k, paper, given, wanted):
    """Whether a paper is right, by the words of [40] and [41]."""
    if isinstance(paper, Endless):
        once, twice = paper.head + paper.ring + paper.tail, paper.head + paper.ring * 2 + paper.tail
        u, v, weight = oracle.tell(edits, paper.ring)
        before, behind = oracle.tell(edits, paper.head), oracle.tell(edits, paper.head + paper.ring)
        back = [oracle.walk(machine, 0, before[at])[0] == oracle.walk(machine, 0, behind[at])[0]
                for at, machine in enumerate((rule.left, rule.right))]
        return (weight == 0 and u != "" and all(back) and oracle.is_bad(rule, edits, k, once, given, wanted)
                and oracle.is_bad(rule, edits, k, twice, given, wanted))
    if (paper.many is None) != (paper.columns is None):
        return False
    if paper.many is not None:
        x, y, weight = oracle.tell(edits, paper.columns)
        if len(x) != paper.many or not oracle.is_bad(rule, edits, k, paper.columns, given, wanted):
            return False
    return oracle.is_right_far_tree(rule, edits, k, paper.many, paper.tree, given, wanted)


def small_questions(seed, many):
    dice = random.Random(seed)
    for rule, edits, k, given, wanted in oracle.questions(seed, many, states=3, names=3):
        if len(rule.left.rows) * len(rule.right.rows) <= 16:
            yield rule, edits, dice.choice([0, 1, 2, 3]), given, wanted


class Told(unittest.TestCase):
    def check(self, rule, edits, k, given=(), wanted=None):
        paper = longest(rule, edits, k, given=given, wanted=wanted)
        self.assertTrue(is_right(rule, edits, k, paper, given, wanted))
        self.assertIs(is_longest(rule, edits, k, paper, given=given, wanted=wanted), True)
        return paper

    def test_lengths(self):
        found = {}
        for rule, edits, k, given, wanted in small_questions(31, 800):
            paper = self.check(rule, edits, k, given, wanted)
            length = oracle.longest_length(rule, edits, k, given, wanted)
            if length == "endless":
                self.assertIsInstance(paper, Endless)
                for times in (1, 2, 3, 7):
                    row = paper.head + paper.ring * times + paper.tail
                    self.assertTrue(oracle.is_bad(rule, edits, k, row, given, wanted))
            else:
                self.assertIsInstance(paper, Longest)
                self.assertEqual(paper.many, length)
            kind = min(length, 2) if isinstance(length, int) else length
            found[kind] = found.get(kind, 0) + 1
        self.assertEqual(set(found), {"endless", None, 0, 1, 2})
        self.assertGreater(min(found.values()), 5)

    def test_no_short_row_is_longer(self):
        for rule, edits, k, given, wanted in small_questions(32, 200):
            paper = longest(rule, edits, k, given=given, wanted=wanted)
            if isinstance(paper, Longest):
                for columns in oracle.rows_of_columns(edits, 5 if len(edits.rows) < 2 else 3):
                    if oracle.is_bad(rule, edits, k, columns, given, wanted):
                        self.assertIsNotNone(paper.many)
                        self.assertLessEqual(len(oracle.tell(edits, columns)[0]), paper.many)

    def test_no_bad_row(self):
        seen = 0
        for rule, edits, k, given, wanted in oracle.questions(33, 200):
            if k is not None and k <= 30:
                is_none = isinstance(sure(rule, edits, k, given=given, wanted=wanted), Sure)
                paper = self.check(rule, edits, k, given, wanted)
                self.assertIs(isinstance(paper, Longest) and paper.many is None, is_none)
                seen += is_none
                if is_none:
                    self.assertIsNone(paper.columns)
                    self.assertEqual({node[4] for way, nodes in oracle.leaves(paper.tree) for node in nodes}, {None})
        self.assertGreater(seen, 50)

    def test_kinds(self):
        for rule, edits, k, given, wanted in small_questions(34, 150):
            paper = longest(rule, edits, k, given=given, wanted=wanted)
            if isinstance(paper, Endless):
                self.assertEqual([type(paper.head), type(paper.ring), type(paper.tail)], [tuple] * 3)
            else:
                self.assertEqual((type(paper.many), type(paper.columns)),
                                 (type(None),) * 2 if paper.many is None else (int, tuple))
                for _, part in oracle.parts_of_tree(paper.tree):
                    self.assertIs(type(part), tuple)
                    if len(part) == 2:
                        self.assertEqual({(type(node), type(node[2])) for node in part[1]}, {(tuple, tuple)})
                        self.assertEqual({type(node[3]) for node in part[1]}, {int})

    def test_plain_ones(self):
        edits = Edits.plain("ab", 9, 9, 1)
        for machine, k, many in ((pieces("ab", 2), 0, None), (pieces("ab", 2), 1, 3), (sized("ab", 3), 8, None),
                                 (sized("ab", 3), 9, 3), (sized("ab", 3), 30, 5), (sized("ab", 0), 30, None)):
            self.assertEqual(self.check(Rule(machine), edits, k).many, many, msg=repr((machine, k)))
        for k in (1, 9, 30):
            self.assertIsInstance(self.check(Rule(heads("ab", 1)), edits, k), Endless)
            self.check(Rule(pieces("ab", 2)), edits, k)
        self.assertEqual(self.check(Rule(heads("ab", 1)), edits, 0).many, None)

    def test_each_bound(self):
        edits = Edits("ab", [("a", "b", 2), ("ab", "", 3), ("", "b", 1)])
        for rule in (Rule(sized("ab", 4)), Rule(pieces("ab", 2)), Rule(beside(heads("ab", 1), sized("ab", 2)))):
            lengths = []
            for k in (0, 1, 2, 3, 4, 7, 15, 29, 30):
                paper = self.check(rule, edits, k)
                lengths.append(10 ** 9 if isinstance(paper, Endless) else -1 if paper.many is None else paper.many)
            self.assertEqual(lengths, sorted(lengths))

    def test_the_first_text_counts(self):
        # The first text gets shorter, the second one longer.
        rule = Rule(Machine("ab", [[(0, []), (0, [])]], [["e"]]), Machine("ab", [[(0, ["e"]), (0, ["e"])]], [[]]))
        edits = Edits("ab", [("aba", "", 1), ("", "a", 0)])
        self.assertEqual([self.check(rule, edits, k).many for k in (0, 1, 2, 30)], [0, 3, 6, 90])
        self.assertIsInstance(self.check(rule, edits.turned(), 5), Endless)
        self.assertEqual(self.check(rule.turned(), edits.turned(), 5).many, 0)
        self.assertIsInstance(self.check(rule, Edits("ab", [("aba", "", 0)]), 0), Endless)
        self.assertEqual(self.check(rule, Edits("ab", [("", "aba", 0)]), 0).many, 0)

    def test_rings_that_are_barred(self):
        # A ring of signs gives both texts their key k, unless k is not wanted.
        machine = Machine("ab", [[(0, ["k"]), (0, [])]], [["e"]])
        edits = Edits("ab", [("b", "", 1)])
        self.assertIsInstance(self.check(Rule(machine), edits, 3, (), ()), Endless)
        self.assertIsInstance(self.check(Rule(machine), edits, 3, (), ("k",)), Endless)
        machine = Machine("ab", [[(0, ["k"]), (0, ["k"])]], [["e"]])
        self.assertEqual(self.check(Rule(machine), edits, 3, (), ("k",)).many, 3)
        self.assertIsInstance(self.check(Rule(machine), edits, 3, ("k",), ()), Endless)
        self.assertEqual(self.check(Rule(machine), edits, 3, ("e",), ("k",)).many, 3)
        self.assertEqual(self.check(Rule(machine), edits, 3, ("k",), ("e",)).many, None)

    def test_rings_that_get_a_key_for_each_text(self):
        # In the ring the first text gets one key at one sign, the second text the same key at another one.
        left = Machine("ab", [[(0, ["k"]), (0, [])]], [[]])
        right = Machine("ab", [[(0, []), (0, ["k"])]], [[]])
        edits = Edits("ab", [("b", "", 1), ("", "b", 1)])
        paper = self.check(Rule(left, right), edits, 2)
        self.assertIsInstance(paper, Endless)
        paper = self.check(Rule(left, right), edits, 2, ("k",), ())
        self.assertIsInstance(paper, Endless)
        self.assertLess(0, len(paper.head + paper.ring + paper.tail))
        for machine, other in ((left, right), (right, left)):
            closed = Machine("ab", [[(1, ["k"]), (0, [])], [(1, ["k"]), (1, ["k"])]], [[], []])
            self.check(Rule(machine, closed), edits, 2)
            self.check(Rule(closed, other), edits, 2)

    def test_a_ring_that_is_too_far_away(self):
        # It weighs 2 to come to the ring of the sign a, and 3 to come from there back to the begin, the only end.
        left = Machine("ab", [[(1, []), (2, [])], [(1, []), (0, [])], [(2, []), (2, [])]], [["e"], [], []])
        right = Machine("ab", [[(2, []), (1, [])], [(1, []), (3, [])], [(2, []), (2, [])], [(0, []), (2, [])]],
                        [["e"], [], [], []])
        edits = Edits("ab", [("a", "b", 2), ("b", "ba", 3)])
        for k in (0, 2, 3, 4):
            paper = self.check(Rule(left, right), edits, k, ("e",), ())
            self.assertEqual((paper.many, paper.columns), (0, ()))
        for k in (5, 6, 30):
            self.assertIsInstance(self.check(Rule(left, right), edits, k, ("e",), ()), Endless)

    def test_ways_round_without_signs_on_the_first_side(self):
        # The second text goes round three states at no weight; ways lead on from one of them, the end is at one.
        left = Machine("ab", [[(1, []), (2, [])], [(2, []), (0, [])], [(2, []), (2, [])]], [["e"], [], []])
        for way_on in range(3):
            for end in range(3):
                rows = [[((at + 1) % 3, []), (4 if at == way_on else 3, [])] for at in range(3)]
                right = Machine("ab", rows + [[(3, []), (3, [])], [(3, []), (0, [])]],
                                [["e"] if at == end else [] for at in range(5)])
                edits = Edits("ab", [("", "a", 0), ("ab", "bb", 1)])
                for k in (0, 1, 2, 5):
                    paper = self.check(Rule(left, right), edits, k, ("e",), ())
                    self.assertEqual(paper.many, 2 * k)

    def test_weights_above_the_bound(self):
        edits = Edits("ab", [("a", "b", 31), ("", "a", 10 ** 30)])
        self.assertEqual(self.check(Rule(heads("ab", 1)), edits, 30).many, None)
        self.assertEqual(self.check(Rule(heads("ab", 1)), Edits("ab", [("a", "b", 30)]), 29).many, None)
        self.assertIsInstance(self.check(Rule(heads("ab", 1)), Edits("ab", [("a", "b", 30)]), 30), Endless)

    def test_greatest_machines(self):
        names = ["k%d" % at for at in range(12)]
        for seed in range(3):
            left = Machine("abcd", *oracle.parts_of_machine("abcd", 16, names, seed, 0.2, 0.5))
            right = Machine("dcba", *oracle.parts_of_machine("dcba", 16, names, seed + 50, 0.2, 0.5))
            edits = oracle.some_edits(random.Random(seed), "abcd", 24)
            for given in ((), names[:1]):
                for rule in (Rule(left), Rule(left, right)):
                    self.check(rule, edits, 2, given)

    def test_equal_calls(self):
        for rule, edits, k, given, wanted in small_questions(35, 80):
            one = longest(rule, edits, k, given=given, wanted=wanted)
            other = longest(Rule(rule.left, rule.right), Edits(edits.signs, edits.rows), k, given=given, wanted=wanted)
            self.assertEqual(vars(one), vars(other))
            self.assertIs(type(one), type(other))


class Judged(unittest.TestCase):
    def check(self, rule, edits, k, paper, given=(), wanted=None):
        expected = is_right(rule, edits, k, paper, given, wanted)
        self.assertIs(is_longest(rule, edits, k, paper, given=given, wanted=wanted), expected, msg=repr(vars(paper)))
        return expected

    def test_longest_with_one_thing_changed(self):
        found = {True: 0, False: 0}
        dice = random.Random(36)
        for rule, edits, k, given, wanted in small_questions(36, 400):
            right = longest(rule, edits, k, given=given, wanted=wanted)
            if isinstance(right, Longest):
                columns = list(right.columns or ())
                papers = [Longest(many, right.columns, right.tree) for many in (None, 0, 1, -1, 3, 10 ** 30)]
                rows = [None, (), columns + [edits.signs[0]], columns[1:], columns[:-1], columns[::-1]]
                papers += [Longest(right.many, row, right.tree) for row in rows]
                papers += [Longest(len(oracle.tell(edits, row or ())[0]), row, right.tree) for row in rows]
                papers += [Longest(right.many, right.columns, tree) for tree in (DEAD, ("leaf", ()))]
                papers += [Longest(right.many, right.columns, tree)
                           for tree in oracle.changed_trees(dice, rule, given, right.tree, 25)]
                papers.append(Longest(right.many, right.columns, oracle.as_lists(right.tree)))
                for paper in papers:
                    found[self.check(rule, edits, k, paper, given, wanted)] += 1
        self.assertGreater(min(found.values()), 500)

    def test_endless_with_one_thing_changed(self):
        found = {True: 0, False: 0}
        for rule, edits, k, given, wanted in small_questions(37, 300):
            right = longest(rule, edits, k, given=given, wanted=wanted)
            if isinstance(right, Endless):
                head, ring, tail = list(right.head), list(right.ring), list(right.tail)
                papers = [Endless(head, ring * 2, tail), Endless(head + ring, ring, tail),
                          Endless(head, ring, ring + tail),
                          Endless(head, [], tail), Endless(head, ring, []), Endless([], ring, tail),
                          Endless(tail, ring, head),
                          Endless(head + ring[:1], ring[1:] + ring[:1], ring[1:] + tail), Endless(head, ring[1:], tail),
                          Endless(head, ring[:-1], tail), Endless(head + tail, ring, []), Endless([], [], [])]
                for column in oracle.all_columns(edits):
                    papers += [Endless(head + [column], ring, tail), Endless(head, [column], tail),
                               Endless(head, ring + [column], tail), Endless(head, ring, tail + [column])]
                for paper in papers:
                    found[self.check(rule, edits, k, paper, given, wanted)] += 1
        self.assertGreater(min(found.values()), 300)

    def test_wrong_rings(self):
        rule, edits = Rule(heads("ab", 1)), Edits("ab", [("a", "b", 1), ("", "a", 0), ("b", "a", 0), ("a", "", 0)])
        for head, ring, tail, told in (((0,), ("a",), (), True), ((0,), ("b", "a"), ("b",), True),
                                       ((0,), (2,), (), True),
                                       ((0,), (), (), False), ((0,), (1,), (), False), ((0,), (1, "a"), (), True),
                                       ((), (0,), (), False), ((), ("a",), (0,), False), ((0,), (0,), (), False),
                                       ((0,), (3,), (), True), ((0, 0), ("a",), (), False), ((2,), ("a",), (), True),
                                       ((), (2,), (), False)):
            self.assertIs(is_longest(rule, edits, 1, Endless(head, ring, tail)), told, msg=repr((head, ring, tail)))
        # The ring comes back to the states only if it is done twice.
        machine = Machine("ab", [[(1, []), (1, [])], [(0, []), (0, [])]], [[], []])
        for ring, told in ((("a",), False), (("a", "b"), True), (("a",) * 3, False), (("a",) * 4, True)):
            for paired in (Rule(machine), Rule(machine, heads("ab", 0)), Rule(heads("ab", 0), machine)):
                self.assertIs(is_longest(paired, Edits("ab", []), 0, Endless((), ring, ())), told)

    def test_once_and_twice(self):
        # A ring that gives a key on its way: the first text has it once it is done.
        left = Machine("a", [[(1, [])], [(2, [])], [(2, ["k"])]], [[], [], []])
        right = Machine("a", [[(0, ["k"])]], [[]])
        rule, edits = Rule(left, right), Edits("a", [])
        for head, ring, tail in ((2, 1, 0), (1, 1, 0), (0, 1, 0), (2, 1, 1), (3, 1, 0), (0, 2, 0), (1, 2, 0),
                                 (2, 2, 0)):
            for given, wanted in (((), ("k",)), (("k",), ()), ((), ())):
                self.check(rule, edits, 0, Endless(("a",) * head, ("a",) * ring, ("a",) * tail), given, wanted)

    def test_the_weight_of_the_ring(self):
        rule, edits = Rule(heads("ab", 1)), Edits("ab", [("a", "b", 1), ("b", "a", 1)])
        self.assertTrue(is_longest(rule, edits, 1, Endless((0,), ("a",), ())))
        self.assertFalse(is_longest(rule, edits, 30, Endless((0,), (0,), ())))
        self.assertFalse(is_longest(rule, edits, 30, Endless((0,), ("a", 1), ())))
        self.assertFalse(is_longest(rule, edits, 0, Endless((0,), ("a",), ())))

    def test_plain_papers(self):
        rule, edits = Rule(sized("ab", 3)), Edits("ab", [("a", "", 4)])
        right = longest(rule, edits, 5)
        self.assertEqual(right.many, 3)
        columns = right.columns
        for many, row, tree, told in ((3, columns, right.tree, True),
                                      (3, list(columns), oracle.as_lists(right.tree), True),
                                      (None, None, right.tree, False), (3, None, right.tree, False),
                                      (4, columns, right.tree, False),
                                      (None, columns, right.tree, False), (2, ("a", 0), right.tree, False),
                                      (1, (0,), right.tree, False), (3, ("b", "b", 0), right.tree, True),
                                      (3, ("b", "b", "b"), right.tree, False), (3, columns, DEAD, False),
                                      (3, columns, ("leaf", ()), False), (0, (), right.tree, False)):
            self.assertIs(is_longest(rule, edits, 5, Longest(many, row, tree)), told, msg=repr((many, row)))
        # A room may be greater than it has to be, as long as all ahead of it have room for it.
        nodes = right.tree[1]
        for more in (0, 1):
            wide = ("leaf", tuple([(p, q, flags, c, None if room is None else room + more)
                                   for p, q, flags, c, room in nodes]))
            self.assertIs(is_longest(rule, edits, 5, Longest(3, columns, wide)), more == 0)

    def test_many_is_an_integer(self):
        rule, edits = Rule(sized("ab", 1)), Edits("ab", [("a", "", 1)])
        right = longest(rule, edits, 1)
        self.assertEqual(right.many, 1)
        for many, told in ((1, True), (True, False), (None, False), (0, False), (False, False), (2, False),
                           (-1, False)):
            self.assertIs(is_longest(rule, edits, 1, Longest(many, right.columns, right.tree)), told)

    def test_dead_nodes(self):
        rule, edits = Rule(sized("ab", 0)), Edits("ab", [("a", "", 4)])
        for nodes, told in ((((0, 0, (), 0, None),), True), (((0, 0, (), 0, 0),), False), (((0, 0, (), 0, 5),), False),
                            (((0, 0, (), 1, None),), False), (((0, 0, (), 0, None), (0, 0, (), 1, None)), True),
                            (((0, 0, (), 0, None), (0, 0, (), 0, None)), False),
                            (((0, 0, (), 0, None), (0, 0, (), 4, None)), False),
                            (((0, 0, (), 0, None), (0, 0, (), -1, None)), False)):
            self.assertIs(is_longest(rule, edits, 3, Longest(None, None, ("leaf", nodes))), told, msg=repr(nodes))
        self.assertFalse(is_longest(rule, edits, 4, Longest(None, None, DEAD)))
        self.assertTrue(is_longest(rule, edits, 4,
                                   Longest(None, None, ("leaf", ((0, 0, (), 0, None), (0, 0, (), 4, None))))))
        # An end that is full and not barred has to be at a node with a room.
        self.assertFalse(is_longest(rule, Edits("ab", []), 3, Longest(None, None, DEAD), wanted=()))

    def test_fields(self):
        columns, head, ring, tail = ["a", 0], ["a"], [0], ["b"]
        paper, other = Longest(2, columns, DEAD), Endless(head, ring, tail)
        for row in (columns, head, ring, tail):
            row.append(7)
        self.assertEqual((paper.many, paper.columns, paper.tree), (2, ("a", 0), DEAD))
        self.assertEqual((other.head, other.ring, other.tail), (("a",), (0,), ("b",)))
        paper, other = Longest(tree=DEAD, columns=None, many=None), Endless(tail=[], ring=(0,), head=())
        self.assertEqual((paper.many, paper.columns, paper.tree), (None, None, DEAD))
        self.assertEqual((other.head, other.ring, other.tail), ((), (0,), ()))


if __name__ == "__main__":
    unittest.main()
