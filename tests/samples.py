"""Values that several tests share."""

import os
import string
import unittest

# Nothing is specified for a percent sign and for characters outside of these.
SIGNS = "\n" + "".join(chr(code) for code in range(32, 127) if chr(code) != "%")

FAR = 10 ** 70 - 1


class Pretender:
    """Claims to equal everything, and cannot be hashed."""

    __hash__ = None

    def __eq__(self, other):
        return True


class Plain:
    """A value without any equality of its own."""


def nested(levels, wrap):
    """Return a value that is nested so many levels deep."""
    thing = "ann"
    for _ in range(levels):
        thing = wrap(thing)
    return thing


def deep(levels):
    """Return values that are nested so many levels deep."""
    return [
        nested(levels, lambda thing: [thing]),
        nested(levels, lambda thing: (thing,)),
        nested(levels, lambda thing: {"ann": thing}),
        nested(levels, lambda thing: (thing, 0, 1)),
    ]


ODD = [
    None, True, False, b"", b"ann", b"2", [], [2], ["ann"], ["ann", 0, 3], (), (2,), ("ann",), (("ann", 0, 3),),
    [("ann", 0, 3)], {}, {"ann": 1}, set(), {2}, frozenset(), range(3), object(), Plain(), Pretender(), int, str, len,
    nested, os, ...,
]

# The deepest values of which the document speaks; those of INNER may stand in a trip in a tuple of trips.
DEEP = deep(13)
INNER = [*ODD, *deep(11)]

NOT_TEXTS = [*ODD, *DEEP, ("ann", 0, 3), -1, 0, 1, 2, 3, FAR, -FAR]
NOT_INTEGERS = [*ODD, *DEEP, ("ann", 0, 3), "", "0", "1", "2", "ann", "one", "-1"]

# None of these is a pair of a name and a seat.
NOT_PAIRS = [
    *INNER, "", "ann", "a1", 0, 1, 2, FAR, ["ann", 1], ("ann", 1, 1), ("ann", 1, ()), (1, "ann"), (("ann", 1),),
    (("ann",), 1), ("ann", (1,)), ("ann", [1]), ["ann", [1]], ("ann", "1"), ("ann", "bob"), (1, 1), (1, 2), {"ann": 1},
    {"ann", 1}, *[(thing, 1) for thing in [*INNER, "", 0, 1]], *[("ann", thing) for thing in [*INNER, "", "1", "one"]],
]

NAMES_24 = tuple(string.ascii_lowercase[:24])
TRIPS_24 = tuple((name, at, at + 2) for at, name in enumerate(NAMES_24))


class ErrorCase(unittest.TestCase):
    """A test that knows how to look at errors."""

    def assert_error(self, kind, fields, call, *args, **named):
        """The call raises exactly this error, with these very values in its fields."""
        with self.assertRaises(kind) as caught:
            call(*args, **named)
        self.assertEqual(type(caught.exception), kind)
        for field, worth in fields.items():
            self.assert_same(getattr(caught.exception, field), worth)

    def assert_errors(self, kind, field, rows, call, *args):
        """The call with each value behind the arguments raises this error with what stands beside it in the field."""
        for thing, worth in rows:
            self.assert_error(kind, {field: worth}, call, *args, thing)

    def assert_same(self, found, worth):
        """The values are equal, and of the same kind: True is not 1."""
        if found is not worth:
            self.assertEqual(type(found), type(worth))
            self.assertEqual(found, worth)
