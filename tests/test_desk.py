"""[90], [91], [92]: nevermiss/desk.py."""

import random
import unittest

import oracle
from nevermiss import parts
from nevermiss.desk import Desk
from nevermiss.edits import Edits
from nevermiss.errors import BadBound, BadName, BadSign, Misses, MissError, NothingLeft, TooMany, Unlike
from nevermiss.rules import Rule
from nevermiss.sure import is_bad, lowest
from nevermiss.tables import Table

ROWS = {"one": "aab", "two": "aba", "six": "bb"}
TABLE = Table("ab", ROWS)
RULE = Rule(parts.sized("ab", 5))
EDITS = Edits("ab", [("ab", "ba", 1)])
# With these, texts are missed from the weight 3 on.
PUTS = Edits("ba", [("ab", "ba", 1), ("", "b", 3)])
STRANGE_BOUNDS = [-1, 10 ** 40 + 1, 10 ** 50, True, False, None, "1", (), [1]]


def desk_of(table=TABLE, rule=RULE, edits=EDITS, k=4):
    return Desk(table, rule, edits, k)


def held(desk):
    return desk.table, desk.rule, desk.edits, desk.bound, len(desk)


class Checked(unittest.TestCase):
    def check(self, call, kind, field=None, value=None):
        with self.assertRaises(kind) as caught:
            call()
        self.assertIs(type(caught.exception), kind)
        if field is not None:
            self.assertEqual(getattr(caught.exception, field), value)
            self.assertIs(type(getattr(caught.exception, field)), type(value))

    def check_misses(self, call, rule, edits, k):
        """Misses is raised with a bad row of the least weight."""
        with self.assertRaises(Misses) as caught:
            call()
        columns = caught.exception.columns
        self.assertIs(type(columns), tuple)
        self.assertTrue(oracle.is_bad(rule, edits, k, columns))
        self.assertEqual(oracle.tell(edits, columns)[2], oracle.least_weight(rule, edits))

    def check_unchanged(self, desk, call, kind, field=None, value=None):
        """A call raises an error and changes nothing, neither what can be undone."""
        before = held(desk)
        self.check(call, kind, field, value)
        self.assertEqual(held(desk), before)


class Made(Checked):
    def test_attributes(self):
        desk = desk_of()
        self.assertEqual(held(desk), (TABLE, RULE, EDITS, 4, 0))
        desk = Desk(k=0, edits=EDITS, rule=RULE, table=TABLE)
        self.assertEqual(held(desk), (TABLE, RULE, EDITS, 0, 0))

    def test_unlike(self):
        for signs in ("a", "abc", "ac"):
            table, rule, edits = Table(signs, {}), Rule(parts.sized(signs, 1)), Edits(signs, [])
            for told in ((table, RULE, EDITS), (TABLE, rule, EDITS), (TABLE, RULE, edits), (table, rule, EDITS),
                         (table, RULE, edits), (TABLE, rule, edits)):
                for k in (0, -1, None):
                    self.check(lambda: Desk(*told, k), Unlike)
        for one, other, third in (("ab", "ba", "ab"), ("ba", "ab", "ab"), ("ab", "ab", "ba")):
            Desk(Table(one, ROWS), Rule(parts.sized(other, 0)), Edits(third, []), 0)

    def test_bad_bound(self):
        for k in STRANGE_BOUNDS:
            self.check(lambda: desk_of(k=k), BadBound, "bound", k)
            # Texts would be missed within each bound, too.
            self.check(lambda: desk_of(rule=Rule(parts.holding(parts.sized("ab", 1), [])), k=k), BadBound, "bound", k)
        for k in (0, 1, 10 ** 40):
            self.assertEqual(desk_of(k=k).bound, k)

    def test_misses(self):
        for k in (3, 4, 10 ** 30, 10 ** 40):
            self.check_misses(lambda: desk_of(edits=PUTS, k=k), RULE, PUTS, k)
        for k in (0, 1, 2):
            self.assertEqual(desk_of(edits=PUTS, k=k).bound, k)

    def test_misses_by_hand(self):
        found = {True: 0, False: 0}
        for rule, edits, _, _, _ in oracle.questions(1, 300):
            least = oracle.least_weight(rule, edits)
            bounds = [0, 1, 10 ** 40] if least is None else [least, least + 3, max(0, least - 1), 10 ** 40]
            for k in bounds:
                bad = least is not None and least <= k
                table = Table(rule.signs, {"a": "", "b": rule.signs})
                if bad:
                    self.check_misses(lambda: Desk(table, rule, edits, k), rule, edits, k)
                else:
                    self.assertEqual(held(Desk(table, rule, edits, k)), (table, rule, edits, k, 0))
                found[bad] += 1
        self.assertGreater(min(found.values()), 100)

    def test_texts_that_are_not_in_the_table_count(self):
        table = Table("ab", {"one": "b"})
        rule, edits = Rule(parts.heads("ab", 1)), Edits("ab", [("a", "b", 1)])
        self.assertEqual(table.missed(rule, edits, 1), ())
        self.check_misses(lambda: Desk(table, rule, edits, 1), rule, edits, 1)
        self.assertEqual(len(Desk(table, rule, edits, 0)), 0)


class Asked(Checked):
    def test_as_the_table_tells(self):
        dice = random.Random(2)
        many = 0
        for rule, edits, _, _, _ in oracle.questions(2, 250):
            least = oracle.least_weight(rule, edits)
            if least == 0:
                continue
            k = dice.choice([5, 10 ** 30]) if least is None else dice.choice([0, least - 1])
            rows = {"n%d" % n: "".join(dice.choice(rule.signs) for _ in range(dice.randint(0, 4))) for n in range(8)}
            table = Table(rule.signs, rows)
            desk = Desk(table, rule, edits, k)
            for text in [*oracle.texts(rule.signs, 2), *rows.values()]:
                told = desk.ask(text)
                self.assertEqual(told, table.near_text(edits, k, text))
                found = table.found(rule, text)
                self.assertEqual(desk.tried(text), len(found))
                # All names that are near are found.
                self.assertLessEqual({name for weight, name in told}, set(found))
                many += len(told)
        self.assertGreater(many, 400)

    def test_bad_sign(self):
        for desk in (desk_of(), desk_of(table=Table("ab", {}))):
            for text, place in (("c", 0), ("abA", 2), ("ab" * 40 + "?", 80)):
                self.check(lambda: desk.ask(text), BadSign, "place", place)
                self.check(lambda: desk.tried(text), BadSign, "place", place)
            self.assertEqual(len(desk.ask("ab" * 40)), 0)

    def test_by_name(self):
        self.assertEqual(desk_of().ask(text="aba"), ((0, "two"), (1, "one")))
        self.assertEqual(desk_of().tried(text="aba"), 2)


class Deeds(Checked):
    def test_put(self):
        desk = desk_of()
        self.assertIsNone(desk.put("ten", "ab"))
        self.assertEqual(held(desk), (Table("ab", {**ROWS, "ten": "ab"}), RULE, EDITS, 4, 1))
        self.assertEqual(list(desk.table.rows), ["one", "six", "ten", "two"])
        self.assertIsNone(desk.put(text="", name="0"))
        self.assertEqual(desk.ask(""), ((0, "0"),))
        self.assertEqual((len(desk), desk.table["0"]), (2, ""))

    def test_put_raises(self):
        full = Table("ab", {"n%d" % n: "ab" for n in range(24)})
        for desk in (desk_of(), desk_of(table=full)):
            taken = list(desk.table.rows)[0]
            for name in ("", "A", "a b", "abcdefghijklm", "?", taken):
                for text in ("a", "abc", "a" * 31, "c" * 31):
                    self.check_unchanged(desk, lambda: desk.put(name, text), BadName, "name", name)
            for text, place in (("abc", 2), ("?" * 40, 0), ("a" * 31 + "B", 31)):
                self.check_unchanged(desk, lambda: desk.put("new", text), BadSign, "place", place)
            self.check_unchanged(desk, lambda: desk.put("new", "a" * 31), TooMany, "what", "signs")
        self.check_unchanged(desk, lambda: desk.put("new", "a" * 30), TooMany, "what", "rows")
        self.check_unchanged(desk, lambda: desk.put("new", ""), TooMany, "what", "rows")
        desk.take("n3")
        desk.put("new", "a" * 30)
        self.check_unchanged(desk, lambda: desk.put("n3", "a"), TooMany, "what", "rows")
        desk = desk_of()
        desk.put("abcdefghijkl", "ba" * 15)
        self.assertEqual(desk.table["abcdefghijkl"], "ba" * 15)

    def test_take(self):
        desk = desk_of()
        self.assertIsNone(desk.take("two"))
        self.assertEqual(held(desk), (Table("ab", {"one": "aab", "six": "bb"}), RULE, EDITS, 4, 1))
        for name in ("two", "", "?", "ONE", "ten"):
            self.check_unchanged(desk, lambda: desk.take(name), BadName, "name", name)
        desk.take(name="one")
        desk.take("six")
        self.assertEqual((len(desk.table), len(desk)), (0, 3))
        desk.put("two", "b")
        self.assertEqual(desk.table.rows, {"two": "b"})

    def test_exchange(self):
        desk = desk_of()
        other = Rule(parts.sized("ba", 2), parts.beside(parts.sized("ab", 2), parts.heads("ab", 1)))
        self.assertIsNone(desk.exchange(other))
        self.assertEqual(held(desk), (TABLE, other, EDITS, 4, 1))
        for signs in ("a", "abc", "bc"):
            self.check_unchanged(desk, lambda: desk.exchange(Rule(parts.heads(signs, 1))), Unlike)
        before = held(desk)
        for wrong in (Rule(parts.heads("ab", 1)), Rule(parts.pieces("ab", 2)), Rule(parts.sized("ab", 1), other.left),
                      Rule(parts.holding(parts.sized("ab", 5), ["n5"]))):
            self.check_misses(lambda: desk.exchange(wrong), wrong, EDITS, 4)
            self.assertEqual(held(desk), before)
        desk.exchange(rule=RULE)
        self.assertEqual(desk.rule, RULE)

    def test_reprice(self):
        desk = desk_of()
        other = Edits("ba", [("ab", "ba", 5), ("", "b", 7)])
        self.assertIsNone(desk.reprice(other))
        self.assertEqual(held(desk), (TABLE, RULE, other, 4, 1))
        for signs in ("a", "abc", "bc"):
            self.check_unchanged(desk, lambda: desk.reprice(Edits(signs, [])), Unlike)
        before = held(desk)
        for wrong in (PUTS, Edits.plain("ab", 4, 10, 1), Edits("ab", [("aa", "a", 0)]),
                      Edits("ab", [("aa", "", 4), ("", "b", 4), ("bb", "a", 4)])):
            self.check_misses(lambda: desk.reprice(wrong), RULE, wrong, 4)
            self.assertEqual(held(desk), before)
        desk.reprice(edits=EDITS)
        self.assertEqual(desk.edits, EDITS)

    def test_widen(self):
        desk = desk_of(edits=PUTS, k=1)
        for deeds, k in enumerate((2, 2, 0, 1), start=1):
            self.assertIsNone(desk.widen(k))
            self.assertEqual(held(desk), (TABLE, RULE, PUTS, k, deeds))
        for k in STRANGE_BOUNDS:
            self.check_unchanged(desk, lambda: desk.widen(k), BadBound, "bound", k)
        before = held(desk)
        for k in (3, 4, 10 ** 30, 10 ** 40):
            self.check_misses(lambda: desk.widen(k), RULE, PUTS, k)
            self.assertEqual(held(desk), before)
        desk.widen(k=0)
        desk.reprice(EDITS)
        desk.widen(10 ** 40)
        self.assertEqual(desk.bound, 10 ** 40)

    def test_what_is_asked_follows_the_deeds(self):
        desk = desk_of(k=0)
        self.assertEqual(desk.ask("aba"), ((0, "two"),))
        desk.widen(1)
        self.assertEqual(desk.ask("aba"), ((0, "two"), (1, "one")))
        desk.put("ten", "aba")
        self.assertEqual(desk.ask("aba"), ((0, "ten"), (0, "two"), (1, "one")))
        self.assertEqual(desk.tried("aba"), 3)
        desk.reprice(Edits("ab", [("ab", "ba", 2)]))
        self.assertEqual(desk.ask("aba"), ((0, "ten"), (0, "two")))
        desk.exchange(Rule(parts.sized("ab", 1)))
        self.assertEqual(desk.tried("aba"), 4)
        desk.take("two")
        self.assertEqual((desk.ask("aba"), desk.tried("aba")), (((0, "ten"),), 3))

    def test_a_deed_that_changes_nothing_counts(self):
        desk = desk_of()
        for deed in (lambda: desk.exchange(desk.rule), lambda: desk.reprice(desk.edits),
                     lambda: desk.widen(desk.bound)):
            deed()
        self.assertEqual(held(desk), (TABLE, RULE, EDITS, 4, 3))
        desk.widen(1)
        for many in (3, 2, 1, 0):
            self.assertIsNone(desk.undo())
            self.assertEqual(held(desk), (TABLE, RULE, EDITS, 4, many))
        self.check_unchanged(desk, desk.undo, NothingLeft)

    def test_undo(self):
        desk = desk_of()
        self.check_unchanged(desk, desk.undo, NothingLeft)
        before = []
        for deed in (lambda: desk.put("ten", "b"), lambda: desk.take("one"), lambda: desk.reprice(PUTS),
                     lambda: desk.put("one", "bb"), lambda: desk.exchange(Rule(parts.sized("ab", 3))),
                     lambda: desk.widen(0)):
            before.append(held(desk))
            if len(before) == 3:
                desk.widen(1)
                before.append(held(desk))
            deed()
        while before:
            desk.undo()
            self.assertEqual(held(desk), before.pop())
        self.check_unchanged(desk, desk.undo, NothingLeft)
        # Deeds that are taken back are gone: a new one follows what is there.
        desk.put("ten", "a")
        desk.undo()
        desk.put("ten", "b")
        desk.undo()
        self.assertEqual(held(desk), (TABLE, RULE, EDITS, 4, 0))

    def test_told_objects_do_not_change(self):
        desk = desk_of()
        table, rule, edits = desk.table, desk.rule, desk.edits
        desk.put("ten", "b")
        desk.take("one")
        desk.widen(0)
        desk.reprice(PUTS)
        desk.exchange(Rule(parts.heads("ab", 0)))
        self.assertEqual((table, rule, edits), (TABLE, RULE, EDITS))
        self.assertEqual((table.rows, list(table.rows)), (ROWS, ["one", "six", "two"]))

    def test_who_changes_what_is_told_changes_no_desk(self):
        given = Table("ab", ROWS)
        desk = desk_of(table=given)
        given.rows["new"] = "a"
        desk.table.rows["new"] = "a"
        desk.table.rows.pop("one")
        self.assertEqual((desk.table.rows, len(desk.table)), (ROWS, 3))
        desk.put("ten", "b")
        desk.table.rows.clear()
        self.assertEqual(desk.table.rows, {**ROWS, "ten": "b"})
        desk.undo()
        self.assertEqual(desk.table.rows, ROWS)


class Trouble(Exception):
    """An error of the caller."""


class Attempts(Checked):
    def test_results(self):
        desk = desk_of()
        self.assertEqual(desk.attempt(lambda one: (one is desk, len(one))), (True, 0))
        for result in (None, 0, "", [1], desk):
            self.assertIs(desk.attempt(lambda one: result), result)
        self.assertEqual(len(desk), 0)
        self.assertEqual(desk.attempt(action=len), 0)

    def test_deeds_inside_are_deeds(self):
        desk = desk_of()

        def action(one):
            one.put("ten", "b")
            one.widen(1)
            return one.ask("b")

        self.assertEqual(desk.attempt(action), ((0, "ten"),))
        self.assertEqual(held(desk), (Table("ab", {**ROWS, "ten": "b"}), RULE, EDITS, 1, 2))
        desk.undo()
        self.assertEqual((desk.bound, len(desk.table)), (4, 4))
        desk.undo()
        self.assertEqual(held(desk), (TABLE, RULE, EDITS, 4, 0))

    def test_errors(self):
        for error in (Trouble("x"), MissError(), BadName("x"), ValueError(), KeyError("k"), IndexError(), TypeError(),
                      RuntimeError(), ZeroDivisionError(), StopIteration(), AttributeError(), AssertionError(),
                      NothingLeft(), KeyboardInterrupt(), SystemExit(3), GeneratorExit()):
            desk = desk_of()
            desk.put("ten", "b")
            desk.widen(2)
            before = held(desk)

            def action(one):
                one.take("one")
                one.exchange(Rule(parts.sized("ab", 0)))
                one.undo()
                one.reprice(PUTS)
                raise error

            with self.assertRaises(type(error)) as caught:
                desk.attempt(action)
            self.assertIs(caught.exception, error)
            self.assertEqual(held(desk), before)
            desk.undo()
            self.assertEqual(held(desk), (Table("ab", {**ROWS, "ten": "b"}), RULE, EDITS, 4, 1))
            desk.undo()
            self.assertEqual(held(desk), (TABLE, RULE, EDITS, 4, 0))
            self.check_unchanged(desk, desk.undo, NothingLeft)

    def test_errors_of_the_desk(self):
        for call, kind in ((lambda one: one.put("one", "a"), BadName), (lambda one: one.put("new", "c"), BadSign),
                           (lambda one: one.put("new", "a" * 31), TooMany), (lambda one: one.take("no"), BadName),
                           (lambda one: one.exchange(Rule(parts.heads("ab", 1))), Misses),
                           (lambda one: one.exchange(Rule(parts.heads("a", 1))), Unlike),
                           (lambda one: one.reprice(Edits("ab", [("", "a", 0)])), Misses),
                           (lambda one: one.reprice(Edits("abc", [])), Unlike),
                           (lambda one: one.widen(None), BadBound), (lambda one: one.ask("?"), BadSign),
                           (lambda one: [one.undo() for _ in range(9)], NothingLeft)):
            desk = desk_of()
            desk.put("ten", "b")

            def action(one):
                one.put("new0", "ab")
                one.take("six")
                call(one)

            self.check_unchanged(desk, lambda: desk.attempt(action), kind)

    def test_an_error_that_the_action_catches(self):
        desk = desk_of()

        def action(one):
            one.put("ten", "b")
            self.assertRaises(BadName, one.put, "ten", "b")
            return "went on"

        self.assertEqual(desk.attempt(action), "went on")
        self.assertEqual((len(desk), desk.table["ten"]), (1, "b"))

    def test_undo_within(self):
        desk = desk_of()
        desk.put("ten", "b")
        desk.widen(3)

        def back(one):
            one.undo()
            one.undo()
            self.assertEqual(held(one), (TABLE, RULE, EDITS, 4, 0))
            one.take("one")
            raise Trouble()

        before = held(desk)
        self.assertRaises(Trouble, desk.attempt, back)
        self.assertEqual(held(desk), before)
        # What an attempt that went well took back stays so.
        desk.attempt(lambda one: one.undo())
        self.assertEqual(held(desk), (Table("ab", {**ROWS, "ten": "b"}), RULE, EDITS, 4, 1))

    def test_nested(self):
        desk = desk_of()
        seen = []

        def inner(one):
            one.put("in", "b")
            one.undo()
            one.undo()
            one.put("in", "a")
            seen.append(held(one))
            raise Trouble()

        def middle(one):
            one.put("mid", "a")
            before = held(one)
            self.assertRaises(Trouble, one.attempt, inner)
            self.assertEqual(held(one), before)
            one.attempt(lambda two: two.widen(1))
            return "done"

        def outer(one):
            one.put("out", "a")
            self.assertEqual(one.attempt(middle), "done")
            seen.append(held(one))
            one.attempt(inner)

        before = held(desk)
        self.assertRaises(Trouble, desk.attempt, outer)
        self.assertEqual(held(desk), before)
        self.assertEqual([told[-1] for told in seen], [2, 3, 3])
        self.assertEqual(desk.attempt(lambda one: (one.put("out", "a"), one.attempt(middle))), (None, "done"))
        self.assertEqual((len(desk), desk.bound, sorted(desk.table.rows)), (3, 1, ["mid", "one", "out", "six", "two"]))
        for _ in range(3):
            desk.undo()
        self.assertEqual(held(desk), before)


class Often(Checked):
    """Many deeds, compared with a list of what is held."""

    def test_many_deeds(self):
        dice = random.Random(3)
        rules = [RULE, Rule(parts.sized("ab", 1)), Rule(parts.heads("ab", 1)), Rule(parts.pieces("ab", 1)),
                 Rule(parts.sized("ba", 2), parts.sized("ab", 2)), Rule(parts.counted("ab", "a", 2))]
        edits = [EDITS, PUTS, Edits("ab", []), Edits("ab", [("a", "b", 2)]), Edits("ab", [("aa", "bb", 1)])]
        for _ in range(40):
            desk = desk_of(k=0)
            model = [(ROWS, RULE, EDITS, 0)]
            self.go_on(dice, desk, model, rules, edits, 12, 0)

    def go_on(self, dice, desk, model, rules, edits, many, depth):
        for _ in range(many):
            rows, rule, priced, k = model[-1]
            what = dice.choice(["put", "take", "exchange", "reprice", "widen", "undo", "undo", "attempt"])
            new = None
            if what == "put":
                name, text = dice.choice(["one", "a", "b", "c", "?"]), dice.choice(["", "ab", "bab", "abc"])
                if name not in rows and name != "?" and "c" not in text:
                    new = ({**rows, name: text}, rule, priced, k)
                call = lambda one: one.put(name, text)
            elif what == "take":
                name = dice.choice(["one", "two", "a", "b"])
                if name in rows:
                    new = ({own: rows[own] for own in rows if own != name}, rule, priced, k)
                call = lambda one: one.take(name)
            elif what in ("exchange", "reprice", "widen"):
                other = dice.choice({"exchange": rules, "reprice": edits, "widen": [0, 1, 2, 3, 9, -1]}[what])
                told = (rows, other if what == "exchange" else rule, other if what == "reprice" else priced,
                        other if what == "widen" else k)
                least = oracle.least_weight(told[1], told[2])
                if told[3] >= 0 and (least is None or least > told[3]):
                    new = told
                call = lambda one: getattr(one, what)(other)
            elif what == "undo":
                if len(model) > 1:
                    desk.undo()
                    model.pop()
                    self.compare(desk, model)
                    continue
                call = lambda one: one.undo()
            else:
                self.try_on(dice, desk, model, rules, edits, depth)
                continue
            if new is None:
                self.assertRaises(MissError, call, desk)
            else:
                call(desk)
                model.append(new)
            self.compare(desk, model)

    def try_on(self, dice, desk, model, rules, edits, depth):
        fails = dice.random() < 0.5
        inner = list(model)

        def action(one):
            if depth < 3:
                self.go_on(dice, one, inner, rules, edits, 5, depth + 1)
            if fails:
                raise Trouble()

        if fails:
            self.assertRaises(Trouble, desk.attempt, action)
        else:
            desk.attempt(action)
            model[:] = inner
        self.compare(desk, model)

    def compare(self, desk, model):
        rows, rule, edits, k = model[-1]
        self.assertEqual(held(desk), (Table("ab", rows), rule, edits, k, len(model) - 1))


class Agrees(Checked):
    def test_misses_as_lowest_tells(self):
        for rule, edits, _, _, _ in oracle.questions(4, 100):
            paper = lowest(rule, edits)
            if paper.weight is not None:
                with self.assertRaises(Misses) as caught:
                    Desk(Table(rule.signs, {}), rule, edits, paper.weight)
                self.assertTrue(is_bad(rule, edits, paper.weight, caught.exception.columns))


if __name__ == "__main__":
    unittest.main()
