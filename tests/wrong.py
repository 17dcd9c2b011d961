"""A line, a plan of it, and what is wrong in their places."""

from seatchains.lines import Line
from tests.samples import DEEP, FAR, NOT_INTEGERS, NOT_PAIRS, NOT_TEXTS, TRIPS_24, Plain, deep

LINE = Line(2, (("ann", 0, 3), ("bob", 2, 5), ("carl", 3, 4)))
ANN, BOB, CARL = ("ann", 1), ("bob", 2), ("carl", 1)
PLAN = (ANN, BOB, CARL)
GOAL = (("ann", 2), ("bob", 1), ("carl", 2))


def pretending_line():
    """An object with the properties of a line."""
    other = Plain()
    for name in ("capacity", "trips", "order", "peak"):
        setattr(other, name, getattr(LINE, name))
    return other


NOT_LINES = [*NOT_TEXTS, str(LINE), repr(LINE), Line, (2, LINE.trips), LINE.trips, (LINE,), [LINE], pretending_line()]

NOT_TUPLES = [thing for thing in [*NOT_TEXTS, "", "ann", [ANN], list(PLAN), dict(PLAN), iter(PLAN), set(PLAN), LINE]
              if not isinstance(thing, tuple)]

# Each value with the index that InvalidPlan has for it.
WRONG_PLANS = [
    *[(thing, None) for thing in NOT_TUPLES],
    # Pairs that are missing at the end.
    ((), 0), (PLAN[:1], 1), (PLAN[:2], 2),
    # Values too many.
    *[(PLAN + more, 3) for more in ((ANN,), (CARL,), (("dora", 1),), (None,), (CARL, CARL, CARL), ((),), (1, 2))],
    # No pair.
    *[((thing,), 0) for thing in NOT_PAIRS], *[((thing, BOB, CARL), 0) for thing in [*NOT_PAIRS, *deep(12)]],
    *[((ANN, thing, CARL), 1) for thing in NOT_PAIRS], *[((ANN, BOB, thing), 2) for thing in NOT_PAIRS],
    *[(PLAN + (thing,), 3) for thing in NOT_PAIRS], (ANN, 0), (("ann", "bob", "carl"), 0), ((1, 2, 1), 0),
    # The name of another trip, or of none.
    ((BOB, ANN, CARL), 0), ((ANN, CARL, BOB), 1), ((BOB,), 0), ((CARL,), 0), ((ANN, ANN, CARL), 1),
    ((ANN, BOB, BOB), 2), ((ANN, CARL), 1), ((BOB, CARL), 0), ((("an", 1), BOB, CARL), 0),
    ((("anna", 1), BOB, CARL), 0), ((("Ann", 1), BOB, CARL), 0), ((ANN, ("zoe", 2), CARL), 1),
    ((ANN, BOB, ("dora", 1)), 2), ((("ann ", 1), BOB, CARL), 0),
    # No seat of the line.
    *[((("ann", seat), BOB, CARL), 0) for seat in (0, 3, -1, 20, FAR, -FAR, True, False, None, "1")],
    *[((ANN, ("bob", seat), CARL), 1) for seat in (0, 3, -1, True, False, (2,), [2])],
    *[((ANN, BOB, ("carl", seat)), 2) for seat in (0, 3, True, False, None, {})],
    # Trips that meet in the same seat.
    ((ANN, ("bob", 1), CARL), 1), ((("ann", 2), BOB, CARL), 1), ((ANN, BOB, ("carl", 2)), 2),
    ((ANN, ("bob", 1)), 1), ((("ann", 2), ("bob", 1), CARL), 2),
    # Of two faults the first one counts.
    ((ANN, ("bob", 1), None), 1), ((ANN, ("bob", 1), CARL, None), 1), ((("ann", 0), ("bob", 0)), 0),
    ((None, None), 0), ((ANN, None), 1), ((None,) * 9, 0), ((ANN, BOB, None, None), 2), ((ANN, ("bob", True)), 1),
    ((list(ANN), BOB, CARL), 0), ((ANN, list(BOB), CARL), 1), ((ANN, BOB, list(CARL)), 2), ((PLAN,), 0),
]

WRONG_NAMES = [*NOT_TEXTS, "", "Ann", "an", "anna", "ann ", " ann", "dora", "zoe", "1", "abcdefghi", ("ann", 1)]

# Neither is one of these a seat, nor the number of a plan of a line with 20 plans or less.
WRONG_SEATS = [*NOT_INTEGERS, *DEEP, -1, -FAR, 21, FAR]

# Each value with the index that InvalidExchange has for it, from PLAN on.
WRONG_EXCHANGES = [
    *[(thing, None) for thing in NOT_TUPLES],
    *[((thing,), 0) for thing in [*NOT_PAIRS, *deep(12)]],
    *[((("carl", 2), thing, ("ann", 1)), 1) for thing in NOT_PAIRS],
    *[((("carl", 2), ("ann", 1), ("bob", 1), thing), 3) for thing in NOT_PAIRS],
    # The seat that the trip has then, or no seat of the line.
    *[(PLAN[at:], 0) for at in range(3)], ((("ann", 2), ("ann", 2)), 1), ((("ann", 2), ("bob", 1)), 1),
    ((("ann", 2), ("carl", 2)), 1), ((("ann", 2), ("carl", 1), ("ann", 1)), 2),
    ((("ann", 0),), 0), ((("ann", 3),), 0), ((("ann", 2), ("ann", 1), ("bob", 3)), 2), ((("ann", -1),), 0),
    ((("ann", True),), 0), ((("bob", True),), 0), ((("bob", 1), ("ann", True)), 1), ((("ann", False),), 0),
    # No trip.
    ((("dora", 1),), 0), ((("", 1),), 0), ((("ann", 2), ("dora", 1)), 1), ((("Ann", 2),), 0), ((("ann ", 2),), 0),
    # An exchange alone, lists, and two faults.
    (("ann", 2), 0), ((["ann", 2],), 0), ((("ann", 2), ["ann", 1]), 1), ((None, None), 0), (((),), 0),
    (((("ann", 2),),), 0), ((("ann", 2), None, None), 1),
]

# Each value with the index that InvalidFixed has for it.
WRONG_FIXED = [
    *[(thing, None) for thing in NOT_TUPLES],
    *[((thing,), 0) for thing in [*NOT_PAIRS, *deep(12)]], *[((thing, BOB), 0) for thing in NOT_PAIRS],
    *[((("ann", 2), thing), 1) for thing in NOT_PAIRS], *[((ANN, BOB, thing), 2) for thing in NOT_PAIRS],
    # No trip, or no seat of the line.
    ((("dora", 1),), 0), ((("", 1),), 0), ((("Ann", 1),), 0), ((ANN, ("bobo", 2)), 1), ((ANN, ("zoe", 2)), 1),
    *[((("ann", seat),), 0) for seat in (0, 3, -1, 20, FAR, -FAR, True, False, None)],
    *[((("ann", 2), ("carl", seat)), 1) for seat in (0, 3, True, False, "1")],
    # The names ascend.
    ((BOB, ANN), 1), ((ANN, ("ann", 2)), 1), ((ANN, ANN), 1), ((("bob", 1), ("ann", 2)), 1), ((CARL, BOB), 1),
    ((CARL, BOB, ("ann", 7)), 1),
    # The seats differ, also those of trips that do not meet.
    ((ANN, CARL), 1), ((ANN, ("bob", 1)), 1), (PLAN, 2), ((BOB, ("carl", 2)), 1), ((ANN, BOB, ("carl", 2)), 2),
    # Of two faults the first one counts.
    ((None, None), 0), ((ANN, None, None), 1), (ANN, 0), ((list(ANN),), 0), ((ANN, list(BOB)), 1), (((),), 0),
    ((ANN, BOB, CARL, None), 2), ((PLAN,), 0), (("ann", "bob"), 0), ((1, 2), 0),
]

# The arguments name, start and end with the class and the field that Line.added has for them.
WRONG_TRIPS = [
    *[(thing, 0, 1, "InvalidName", thing) for thing in [*NOT_TEXTS, "", "Dora", "dora ", "abcdefghi", "d1"]],
    *[("dora", thing, 9, "InvalidStation", thing) for thing in [*NOT_INTEGERS, *DEEP, -1, -FAR]],
    *[("dora", 0, thing, "InvalidStation", thing) for thing in [*NOT_INTEGERS, *DEEP, 0, -1, -FAR]],
    *[("dora", start, end, "InvalidStation", end) for start, end in ((3, 3), (3, 2), (FAR, FAR), (0, True), (5, "6"))],
    *[(name, 7, 8, "NameTaken", name) for name in ("ann", "bob", "carl")],
    # The first one that applies.
    ("D", -1, -2, "InvalidName", "D"), (None, None, None, "InvalidName", None), ("ann", -1, -2, "InvalidStation", -1),
    ("ann", 4, 4, "InvalidStation", 4), ("ann", True, 0, "InvalidStation", True),
    ("ann", 1, True, "InvalidStation", True), ("ann", 2, 3, "NameTaken", "ann"),
]

LINE_24 = Line(2, TRIPS_24)
