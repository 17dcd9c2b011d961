"""desk.py: the errors of each action, in their order, and that nothing changes."""

import unittest

from seatchains import errors
from seatchains.desk import Desk
from seatchains.errors import (Full, InvalidAction, InvalidName, InvalidSeat, InvalidSeats, InvalidStation, NotFree,
                               Overfull, TooManyTrips)
from tests.samples import DEEP, FAR, NOT_INTEGERS, NOT_TEXTS, TRIPS_24, ErrorCase
from tests.test_desk import WAYS, filled, state
from tests.wrong import LINE, WRONG_NAMES, WRONG_SEATS, WRONG_TRIPS
from tests.wrong_actions import WRONG_ACTIONS

# The field of each error.
FIELDS = {"InvalidName": "name", "InvalidStation": "station", "NameTaken": "name"}


class ActionErrorsTest(ErrorCase):

    def setUp(self):
        self.desk = filled(2, *LINE.trips)

    def check(self, kind, fields, action):
        """The action fails so in each way, and nothing changes but the attempts."""
        for way in WAYS:
            desk = self.desk
            before, attempts = state(desk), desk.attempts
            self.assert_error(kind, fields, way, desk, action)
            before[4] += desk.attempts - attempts
            self.assertEqual([state(desk), desk.attempts - attempts], [before, int(way.__name__ == "by_do_all")])

    def test_no_actions(self):
        before = state(self.desk)
        for thing in WRONG_ACTIONS:
            self.assert_error(InvalidAction, {"index": None}, self.desk.do, thing)
            self.assert_error(InvalidAction, {"index": None}, self.desk.do, action=thing)
            self.assertEqual(state(self.desk), before)
        self.assertEqual(self.desk.do(("seats", 3)), self.desk.plan)

    def test_book(self):
        for name, start, end, kind, worth in WRONG_TRIPS:
            self.check(getattr(errors, kind), {FIELDS[kind]: worth}, ("book", name, start, end))

    def test_book_full(self):
        for start, end, station in ((0, 9, 2), (2, 3, 2), (3, 4, 3), (0, 3, 2), (3, 9, 3)):
            self.check(Full, {"station": station}, ("book", "dora", start, end))
            self.check(errors.NameTaken, {"name": "ann"}, ("book", "ann", start, end))
        self.assertEqual(len(self.desk.book("dora", 5, FAR)), 4)

    def test_too_many_trips(self):
        self.desk = filled(2, *TRIPS_24)
        for start, end in ((0, 1), (5, 6), (0, 90), (90, 91)):
            self.check(TooManyTrips, {"found": 25}, ("book", "z", start, end))
            self.check(errors.NameTaken, {"name": "a"}, ("book", "a", start, end))
            self.check(InvalidStation, {"station": start}, ("book", "z", start, start))
            self.check(InvalidName, {"name": "Z"}, ("book", "Z", start, start))

    def test_cancel(self):
        for thing in WRONG_NAMES:
            self.check(InvalidName, {"name": thing}, ("cancel", thing))
        self.assertEqual(self.desk.cancel("ann"), self.desk.plan)
        self.check(InvalidName, {"name": "ann"}, ("cancel", "ann"))

    def test_exchange_and_shift(self):
        for word in ("exchange", "shift"):
            for thing in WRONG_NAMES:
                self.check(InvalidName, {"name": thing}, (word, thing, 2))
                self.check(InvalidName, {"name": thing}, (word, thing, thing))
            for thing in [*WRONG_SEATS, 3, 0, 1]:
                self.check(InvalidSeat, {"seat": thing}, (word, "ann", thing))
            for name, own in self.desk.plan:
                self.check(InvalidSeat, {"seat": own}, (word, name, own))

    def test_shifts_that_are_none(self):
        for name in LINE.order:
            self.check(NotFree, {"name": name}, ("shift", name, 3 - dict(self.desk.plan)[name]))
        self.desk.resize(3)
        for name in LINE.order:
            self.check(NotFree, {"name": name}, ("shift", name, 3 - dict(self.desk.plan)[name]))
            self.desk.shift(name, 3)
            self.desk.undo()

    def test_seats(self):
        for thing in [*NOT_INTEGERS, *DEEP, 0, 21, -1, FAR, -FAR]:
            self.check(InvalidSeats, {"value": thing}, ("seats", thing))
        self.check(Overfull, {"station": 2}, ("seats", 1))
        self.desk = filled(3, ("a", 0, 9), ("b", 3, 8), ("c", 7, 8), ("d", 1, 2))
        self.check(Overfull, {"station": 7}, ("seats", 2))
        self.check(Overfull, {"station": 1}, ("seats", 1))

    def test_without_trips(self):
        self.desk = Desk(2)
        for thing in [*NOT_TEXTS, "", "ann"]:
            self.check(InvalidName, {"name": thing}, ("cancel", thing))
            self.check(InvalidName, {"name": thing}, ("exchange", thing, 1))
            self.check(InvalidName, {"name": thing}, ("shift", thing, None))

    def test_true_behind_1(self):
        for _ in range(2):
            self.desk = Desk(1)
            self.desk.seats = 1
            self.check(InvalidSeats, {"value": True}, ("seats", True))
            self.desk.book("ann", 1, 2)
            self.check(InvalidStation, {"station": True}, ("book", "bob", True, 2))
            self.check(InvalidStation, {"station": True}, ("book", "bob", 0, True))
            self.desk.seats = 2
            self.desk.exchange("ann", 2)
            self.desk.exchange("ann", 1)
            self.desk.exchange("ann", 2)
            self.check(InvalidSeat, {"seat": True}, ("exchange", "ann", True))
            self.check(InvalidSeat, {"seat": True}, ("shift", "ann", True))
            self.desk.shift("ann", 1)


if __name__ == "__main__":
    unittest.main()
