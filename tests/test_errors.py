"""The table of errors in errors.py."""

import unittest

from seatchains import errors
from tests.samples import NOT_TEXTS

BASES = {"SeatError": ValueError, "StateError": LookupError, "SizeError": ArithmeticError}

# The name of each error, its base and its fields, as the document lists them.
TABLE = {
    "InvalidSeats": ("SeatError", ["value"]),
    "InvalidTrips": ("SeatError", ["index"]),
    "InvalidName": ("SeatError", ["name"]),
    "InvalidSeat": ("SeatError", ["seat"]),
    "InvalidStation": ("SeatError", ["station"]),
    "InvalidPlan": ("SeatError", ["index"]),
    "InvalidFixed": ("SeatError", ["index"]),
    "InvalidExchange": ("SeatError", ["index"]),
    "InvalidNumber": ("SeatError", ["number"]),
    "InvalidText": ("SeatError", ["text"]),
    "InvalidAction": ("SeatError", ["index"]),
    "InvalidCommand": ("SeatError", ["command"]),
    "NotALine": ("SeatError", ["value"]),
    "Overfull": ("StateError", ["station"]),
    "Full": ("StateError", ["station"]),
    "NameTaken": ("StateError", ["name"]),
    "NotFree": ("StateError", ["name"]),
    "Busy": ("StateError", []),
    "NothingToUndo": ("StateError", []),
    "TooManyTrips": ("SizeError", ["found"]),
    "TooManyPlans": ("SizeError", ["found"]),
    "TooManyEntries": ("SizeError", ["found"]),
}

# Python's own errors: those that the document lists as bases, and others that it does not.
PYTHONS = [ValueError, LookupError, ArithmeticError, KeyError, IndexError, TypeError, RuntimeError, OSError,
           ZeroDivisionError, OverflowError, UnicodeError, AttributeError]


def made(name, worth=None):
    """Return an error of this class, with the value in each of its fields."""
    return getattr(errors, name)(*[worth for _ in TABLE[name][1]])


class ErrorsTest(unittest.TestCase):

    def test_own_and_listed_classes_and_no_others(self):
        for name, (base, _) in TABLE.items():
            error = made(name)
            found = {other for other in [*TABLE, *BASES] if isinstance(error, getattr(errors, other))}
            self.assertEqual(found, {name, base}, name)

    def test_no_error_class_of_the_program_stands_between(self):
        for name, (base, _) in TABLE.items():
            above = [kind for kind in type(made(name)).__mro__ if kind.__module__.startswith("seatchains")]
            self.assertEqual(above, [getattr(errors, name), getattr(errors, base)])

    def test_pythons_own_classes(self):
        for name, (base, _) in TABLE.items():
            found = [other for other in PYTHONS if isinstance(made(name), other)]
            self.assertEqual(found, [BASES[base]], name)

    def test_base_classes(self):
        for base, pythons in BASES.items():
            kind = getattr(errors, base)
            self.assertEqual([other for other in PYTHONS if issubclass(kind, other)], [pythons])
            self.assertEqual([other for other in BASES if issubclass(kind, getattr(errors, other))], [base])

    def test_all_names_are_classes_of_this_module(self):
        for name in [*TABLE, *BASES]:
            kind = getattr(errors, name)
            self.assertEqual((kind.__name__, kind.__module__), (name, "seatchains.errors"))

    def test_fields_by_position(self):
        for name, (_, fields) in TABLE.items():
            worth = object()
            error = made(name, worth)
            for field in fields:
                self.assertIs(getattr(error, field), worth, name)

    def test_fields_by_name(self):
        for name, (_, fields) in TABLE.items():
            worth = object()
            error = getattr(errors, name)(**{field: worth for field in fields})
            for field in fields:
                self.assertIs(getattr(error, field), worth, name)

    def test_fields_hold_values_of_any_kind(self):
        for name, (_, fields) in TABLE.items():
            for worth in [*NOT_TEXTS, "ann", ""]:
                for field in fields:
                    self.assertIs(getattr(made(name, worth), field), worth, name)

    def test_two_errors_keep_their_fields_apart(self):
        for name, (_, fields) in TABLE.items():
            first, second = made(name, 1), made(name, 2)
            for field in fields:
                self.assertEqual([getattr(first, field), getattr(second, field)], [1, 2])

    def test_raised_and_caught_by_each_base(self):
        for name, (base, _) in TABLE.items():
            for kind in (getattr(errors, name), getattr(errors, base), BASES[base]):
                with self.assertRaises(kind):
                    raise made(name, 7)

    def test_errors_are_true_and_equal_to_themselves_only(self):
        for name in TABLE:
            error = made(name, 0)
            self.assertTrue(error)
            self.assertTrue(error == error)
            self.assertFalse(error == made(name, 0))
            self.assertTrue(error != made(name, 0))


if __name__ == "__main__":
    unittest.main()
