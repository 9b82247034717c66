"""[2] Errors: fields by position and by name, and of what each is a kind."""

import unittest

from nevermiss import errors
from nevermiss.errors import (BadBound, BadColumn, BadEdit, BadKeys, BadMachine, BadName, BadSign, BadText,
                              Misses, MissError, NothingLeft, TooMany, Unlike)

FIELDS = {
    BadText: ("line",),
    BadMachine: ("state", "place"),
    BadSign: ("place",),
    BadEdit: ("index",),
    BadColumn: ("index",),
    BadBound: ("bound",),
    BadKeys: ("key",),
    BadName: ("name",),
    TooMany: ("what",),
    Unlike: (),
    Misses: ("columns",),
    NothingLeft: (),
}
VALUES = [0, -7, 10 ** 30, 10 ** 6000, "", "word", "two words", (), (1, "a", (2, "b")), ("a", 0, 10 ** 40), None,
          True]


class Errors(unittest.TestCase):
    def test_fields_by_position_and_by_name(self):
        for kind, names in FIELDS.items():
            for at in range(len(VALUES)):
                told = {name: VALUES[(at + 5 * k) % len(VALUES)] for k, name in enumerate(names)}
                values = [told[name] for name in names]
                for error in (kind(*values), kind(**told)):
                    for name in names:
                        self.assertEqual(getattr(error, name), told[name])
                        self.assertIs(type(getattr(error, name)), type(told[name]))

    def test_fields_by_both(self):
        error = BadMachine(3, place="p")
        self.assertEqual((error.state, error.place), (3, "p"))
        error = BadMachine(place=1, state=2)
        self.assertEqual((error.state, error.place), (2, 1))

    def test_other_numbers_of_fields(self):
        for kind, names in FIELDS.items():
            if names:
                self.assertRaises(TypeError, kind)
                self.assertRaises(TypeError, kind, *range(len(names) + 1))

    def test_directly_below(self):
        self.assertEqual(MissError.__bases__, (ValueError,))
        for kind in FIELDS:
            self.assertEqual(kind.__bases__, (MissError,))
            self.assertEqual(kind.__module__, "nevermiss.errors")

    def test_no_kind_of_one_another(self):
        for kind, names in FIELDS.items():
            error = kind(*["x"] * len(names))
            self.assertIsInstance(error, MissError)
            self.assertIsInstance(error, ValueError)
            self.assertNotIsInstance(error, (LookupError, TypeError, ArithmeticError, RuntimeError, UnicodeError))
            self.assertEqual([other for other in FIELDS if isinstance(error, other)], [kind])
        self.assertNotIsInstance(ValueError(), MissError)
        self.assertEqual([other for other in FIELDS if isinstance(MissError(), other)], [])

    def test_all_of_the_list(self):
        found = [thing for thing in vars(errors).values() if isinstance(thing, type)]
        self.assertEqual(set(found), {MissError, *FIELDS})

    def test_raised_and_caught(self):
        for kind, names in FIELDS.items():
            for above in (kind, MissError, ValueError):
                with self.assertRaises(above) as caught:
                    raise kind(*["x"] * len(names))
                self.assertIs(type(caught.exception), kind)

    def test_fields_are_copied(self):
        for kind, names in FIELDS.items():
            for name in names:
                inner = [1]
                field = ("x", inner, {"k": [2]}, ([3],))
                error = kind(**{other: field if other == name else 0 for other in names})
                inner.append(5)
                field[2]["k"].append(5)
                field[3][0].append(5)
                self.assertEqual(getattr(error, name), ("x", [1], {"k": [2]}, ([3],)))
        field = ["x", [1]]
        error = BadKeys(field)
        field[1].append(5)
        field.append(5)
        self.assertEqual(error.key, ["x", [1]])

    def test_rows_of_columns_are_told_as_tuples(self):
        columns = ["a", 1, 0]
        error = Misses(columns)
        columns.append(2)
        self.assertEqual(error.columns, ("a", 1, 0))
        self.assertEqual(Misses(columns=("a", 1)).columns, ("a", 1))


if __name__ == "__main__":
    unittest.main()
