"""What is no action of a desk, and no tuple of actions."""

from tests.samples import DEEP, FAR, INNER, NOT_TEXTS, deep

# None of these is a tuple that begins with one of the five words and has as many elements as it should.
WRONG_ACTIONS = [
    *INNER, *deep(12), "", "book", "seats", "cancel ann", 0, 1, FAR, ["seats", 2], ["cancel", "ann"],
    ["book", "ann", 0, 3], {"seats": 2}, (("seats", 2),), [("seats", 2)],
    # The number of elements.
    ("book",), ("book", "ann"), ("book", "ann", 0), ("book", "zoe", 0, 1, 2), ("cancel",), ("cancel", "ann", 1),
    ("exchange",), ("exchange", "ann"), ("exchange", "ann", 1, 2), ("shift",), ("shift", "ann"),
    ("shift", "ann", 1, 2), ("seats",), ("seats", 2, 2), ("book", ("zoe", 0, 1)), ("exchange", ("ann", 2)),
    # The word.
    ("Book", "zoe", 0, 1), ("", 2), ("seat", 2), ("seats ", 2), ("resize", 2), ("undo",), ("undo", 2), ("do", 2),
    ("do_all", ()), ("history",), ("ann", "cancel"), (2, "seats"), ("books", "zoe", 0, 1), ("plan", 2),
    *[(thing, 2) for thing in NOT_TEXTS], *[(thing, "ann", 2) for thing in NOT_TEXTS],
    *[(thing, "zoe", 0, 1) for thing in NOT_TEXTS], ((("seats",), 2)), (["seats"], 2), (b"seats", 2),
]

NO_TUPLES = [thing for thing in [*NOT_TEXTS, *DEEP, "", "seats", ["seats", 2], [("seats", 2)], {"seats": 2}]
             if not isinstance(thing, tuple)]

# Each value with the index that InvalidAction has for it in do_all.
WRONG_ALL = [
    *[(thing, None) for thing in NO_TUPLES],
    *[((thing,), 0) for thing in WRONG_ACTIONS],
    *[((("seats", 2), thing), 1) for thing in WRONG_ACTIONS],
    *[((("seats", 2), ("cancel", "ann"), thing, ("seats", 2)), 2) for thing in WRONG_ACTIONS],
    # One action alone, and the first of several faults.
    (("seats", 2), 0), (("cancel", "ann"), 0), ((None, None), 0), ((("seats", 2), (), ()), 1), (((),), 0),
    (((("seats", 2),),), 0), ((("seats", 0), ("seats",)), 1), ((("cancel", "zoe"), None), 1),
]
