"""booking.py: full_stretch and book."""

import random
import unittest

from seatchains import errors
from seatchains.booking import book, full_stretch
from seatchains.chains import follow
from seatchains.errors import Full, InvalidName, InvalidPlan, InvalidStation, NameTaken, NotALine, TooManyTrips
from seatchains.lines import Line
from seatchains.plans import count, is_plan, least_plan, plan_at
from tests.reference import (after, crowded_line, every_exchange, every_plan, far_places, load, small_lines, some_lines,
                             stretched)
from tests.samples import DEEP, FAR, NAMES_24, NOT_INTEGERS, TRIPS_24, ErrorCase
from tests.wrong import LINE, LINE_24, NOT_LINES, PLAN, WRONG_PLANS, WRONG_TRIPS

# The field of each error.
FIELDS = {"InvalidName": "name", "InvalidStation": "station", "NameTaken": "name"}


def least_full(line, start, end):
    """Goes through stations one by one: for lines with few stations only."""
    return next((station for station in range(start, end) if load(line, station) >= line.capacity), None)


class FullStretchTest(ErrorCase):

    def test_by_position_and_by_name(self):
        self.assertEqual([full_stretch(LINE, 0, 9), full_stretch(LINE, 0, 2), full_stretch(LINE, 3, 9)], [2, None, 3])
        self.assertEqual(full_stretch(end=9, start=4, line=LINE), None)
        self.assertEqual(full_stretch(LINE, start=1, end=3), 2)

    def test_all_stretches_of_small_lines(self):
        for seats in (1, 2):
            for line in small_lines(seats, 3, 4):
                for start in range(6):
                    for end in range(start + 1, 7):
                        self.assert_same(full_stretch(line, start, end), least_full(line, start, end))

    def test_some_more_lines(self):
        rng = random.Random(71)
        for line in some_lines(72, 300, 8, 24, 40):
            start = rng.randrange(40)
            end = rng.randint(start + 1, 45)
            self.assert_same(full_stretch(line, start, end), least_full(line, start, end))

    def test_overfull_stretches_are_full(self):
        self.assertEqual(full_stretch(Line.read("1 a:0-3 b:2-5 c:2-3"), 2, 3), 2)
        self.assertEqual(full_stretch(Line(1, tuple((name, 5, 9) for name in NAMES_24)), 7, 8), 7)

    def test_without_trips(self):
        self.assertEqual([full_stretch(Line(1), 0, FAR), full_stretch(Line(1), FAR - 1, FAR)], [None, None])

    def test_far_apart(self):
        line = Line(2, (("a", 5, FAR), ("b", 10 ** 69, 10 ** 69 + 9), ("c", FAR - 1, FAR)))
        for start, end, station in ((0, FAR, 10 ** 69), (10 ** 69 + 3, FAR, 10 ** 69 + 3), (0, 10 ** 69, None),
                                    (10 ** 69 + 9, FAR, FAR - 1), (10 ** 69 + 8, FAR, 10 ** 69 + 8),
                                    (10 ** 69 + 9, FAR - 1, None), (0, 10 ** 69 + 1, 10 ** 69)):
            self.assert_same(full_stretch(line, start, end), station)
        rng = random.Random(73)
        for line in some_lines(74, 100, 3, 6, 6):
            places = far_places(rng, 7)
            for start in range(6):
                for end in range(start + 1, 7):
                    station = least_full(line, start, end)
                    self.assert_same(full_stretch(stretched(line, places), places[start], places[end]),
                                     None if station is None else places[station])

    def test_errors(self):
        for thing in NOT_LINES:
            self.assert_error(NotALine, {"value": thing}, full_stretch, thing, 0, 1)
            self.assert_error(NotALine, {"value": thing}, full_stretch, thing, thing, thing)
        for thing in [*NOT_INTEGERS, *DEEP, -1, -FAR]:
            self.assert_error(InvalidStation, {"station": thing}, full_stretch, LINE, thing, 1)
            self.assert_error(InvalidStation, {"station": thing}, full_stretch, LINE, thing, None)
        for thing in [*NOT_INTEGERS, *DEEP, -1, 0, -FAR]:
            self.assert_error(InvalidStation, {"station": thing}, full_stretch, LINE, 0, thing)
        for start, end in ((3, 3), (3, 2), (FAR, FAR), (FAR, 0), (0, True), (1, 1)):
            self.assert_error(InvalidStation, {"station": end}, full_stretch, LINE, start, end)
        self.assertEqual(full_stretch(LINE, 0, 3), 2)

    def test_true_behind_1(self):
        for _ in range(2):
            self.assertEqual([full_stretch(LINE, 1, 3), full_stretch(LINE, 0, 1)], [2, None])
            self.assert_error(InvalidStation, {"station": True}, full_stretch, LINE, True, 3)
            self.assert_error(InvalidStation, {"station": True}, full_stretch, LINE, 0, True)
            self.assert_error(InvalidStation, {"station": False}, full_stretch, LINE, False, 1)


class BookTest(ErrorCase):

    def check(self, line, plan, name, start, end):
        """The triple is as the document says."""
        found = book(line, plan, name, start, end)
        later, exchanges, goal = found
        self.assertEqual([type(found), type(later), type(exchanges), type(goal)], [tuple, Line, tuple, tuple])
        self.assertEqual(later, line.added(name, start, end))
        self.assertLessEqual(len(exchanges), len(line))
        present = plan
        for exchange in exchanges:
            self.assertIn(exchange, every_exchange(line, present))
            present = after(line, present, *exchange)
        self.assertIs(is_plan(later, goal), True)
        self.assertEqual(present, tuple(pair for pair in goal if pair[0] != name))
        self.assertEqual(follow(line, plan, exchanges), present)
        self.assertEqual(book(line, plan, name, start, end), found)
        return exchanges

    def check_or_full(self, line, plan, name, start, end, station):
        if station is None:
            self.check(line, plan, name, start, end)
        else:
            self.assert_error(Full, {"station": station}, book, line, plan, name, start, end)

    def test_by_position_and_by_name(self):
        line = Line.read("2 ann:0-2 bob:3-5")
        plan = (("ann", 1), ("bob", 2))
        self.check(line, plan, "carl", 1, 4)
        self.assertEqual(book(end=4, start=1, name="carl", plan=plan, line=line), book(line, plan, "carl", 1, 4))

    def test_all_trips_in_small_lines(self):
        for seats in (1, 2, 3):
            for line in small_lines(seats, 2):
                for plan in every_plan(line):
                    for start in range(4):
                        for end in range(start + 1, 5):
                            self.check_or_full(line, plan, "aa", start, end, least_full(line, start, end))

    def test_names_before_between_and_behind(self):
        for name in ("a", "annb", "bobc", "zoe"):
            self.assertEqual(self.check(LINE.without("bob"), (PLAN[0], PLAN[2]), name, 0, 9), ())

    def test_some_more_lines(self):
        rng = random.Random(81)
        needed = 0
        for line in some_lines(82, 300, 4, 7, 10):
            plans = every_plan(line) if len(line) < 6 else [least_plan(line)]
            if plans and plans[0] is not None:
                start = rng.randrange(10)
                end = rng.randint(start + 1, 12)
                station = least_full(line, start, end)
                plan = rng.choice(plans)
                self.check_or_full(line, plan, "m", start, end, station)
                needed += station is None and len(book(line, plan, "m", start, end)[1]) > 0
        self.assertGreater(needed, 0)

    def test_large_lines(self):
        rng = random.Random(83)
        outcomes = []
        for seats in (2, 3, 5, 9, 14, 19):
            for _ in range(8):
                whole, plan = crowded_line(rng, seats, 24, 12, 1)
                taken_out = rng.choice(whole.trips)
                line = whole.without(taken_out[0])
                plan = plan_at(line, rng.randrange(count(line)))
                self.assertEqual(least_full(line, *taken_out[1:]), None)
                outcomes.append(len(self.check(line, plan, *taken_out)) > 0)
                start = rng.randrange(40)
                end = rng.randint(start + 1, 50)
                self.check_or_full(line, plan, "zz", start, end, least_full(line, start, end))
        self.assertEqual(set(outcomes), {True, False})

    def test_the_last_of_24_trips_with_20_seats(self):
        line = Line(20, TRIPS_24[:23])
        rng = random.Random(84)
        for _ in range(20):
            self.check(line, plan_at(line, rng.randrange(count(line))), "x", 0, 100)
        full = Line(20, tuple((name, 5, 6) for name in NAMES_24[:20]))
        self.check(full, least_plan(full), "x", 6, 7)
        self.check(full, least_plan(full), "x", 0, 5)
        self.assert_error(Full, {"station": 5}, book, full, least_plan(full), "x", 4, 7)

    def test_without_trips(self):
        self.assertEqual(self.check(Line(1), (), "ann", 0, FAR), ())
        self.assertEqual(book(Line(1), (), "ann", 0, 1), (Line.read("1 ann:0-1"), (), (("ann", 1),)))

    def test_far_apart(self):
        line = Line(2, (("ann", 0, 10 ** 69), ("bob", 10 ** 69 + 1, FAR)))
        plan = (("ann", 1), ("bob", 2))
        self.check(line, plan, "carl", 10 ** 69 - 1, 10 ** 69 + 2)
        self.check(line, plan, "carl", 0, FAR)
        later, _, goal = book(line, plan, "carl", 0, FAR)
        self.assert_error(Full, {"station": 7}, book, later, goal, "dora", 7, FAR)
        self.assert_error(Full, {"station": 10 ** 69 + 1}, book, later, goal, "dora", 10 ** 69, FAR)

    def test_nothing_changes(self):
        line = Line.read("2 ann:0-2 bob:3-5")
        plan = (("ann", 1), ("bob", 2))
        book(line, plan, "carl", 1, 4)
        self.assertEqual([str(line), line.order, plan],
                         ["2 ann:0-2 bob:3-5", ("ann", "bob"), (("ann", 1), ("bob", 2))])


class ErrorsTest(ErrorCase):

    def check_valid(self):
        self.assertEqual(book(LINE, PLAN, "dora", 5, 6)[1:], ((), PLAN + (("dora", 1),)))

    def test_lines(self):
        for thing in NOT_LINES:
            self.assert_error(NotALine, {"value": thing}, book, thing, PLAN, "dora", 5, 6)
            self.assert_error(NotALine, {"value": thing}, book, thing, thing, thing, thing, thing)
        self.check_valid()

    def test_plans(self):
        for thing, index in WRONG_PLANS:
            self.assert_error(InvalidPlan, {"index": index}, book, LINE, thing, "dora", 5, 6)
            self.assert_error(InvalidPlan, {"index": index}, book, LINE, thing, None, None, None)
        self.check_valid()

    def test_trips(self):
        for name, start, end, kind, worth in WRONG_TRIPS:
            call = (book, LINE, PLAN, name, start, end)
            self.assert_error(getattr(errors, kind), {FIELDS[kind]: worth}, *call)
        self.check_valid()

    def test_too_many_trips(self):
        plan = least_plan(LINE_24)
        for start, end in ((0, 1), (5, 6), (90, 91)):
            self.assert_error(TooManyTrips, {"found": 25}, book, LINE_24, plan, "z", start, end)
        self.assert_error(NameTaken, {"name": "a"}, book, LINE_24, plan, "a", 5, 6)
        self.assert_error(InvalidStation, {"station": 5}, book, LINE_24, plan, "z", 5, 5)
        self.assert_error(InvalidName, {"name": "Z"}, book, LINE_24, plan, "Z", 5, 5)
        self.assert_error(InvalidPlan, {"index": 0}, book, LINE_24, (), "Z", 5, 5)

    def test_full(self):
        for start, end, station in ((0, 9, 2), (2, 3, 2), (3, 4, 3), (0, 3, 2), (3, 9, 3)):
            self.assert_error(Full, {"station": station}, book, LINE, PLAN, "dora", start, end)
            self.assert_error(NameTaken, {"name": "ann"}, book, LINE, PLAN, "ann", start, end)
        self.check_valid()

    def test_true_behind_1(self):
        line, plan = Line(2, (("ann", 0, 3),)), (("ann", 1),)
        for _ in range(2):
            self.assertEqual(book(line, plan, "bob", 1, 2)[2], (("ann", 1), ("bob", 2)))
            self.assert_error(InvalidStation, {"station": True}, book, line, plan, "bob", True, 2)
            self.assert_error(InvalidStation, {"station": True}, book, line, plan, "bob", 0, True)
            self.assert_error(InvalidPlan, {"index": 0}, book, line, (("ann", True),), "bob", 1, 2)


if __name__ == "__main__":
    unittest.main()
