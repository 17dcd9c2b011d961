"""changing.py: itinerary and blocks."""

import random
import unittest

from seatchains.changing import blocks, itinerary
from seatchains.errors import InvalidPlan, InvalidStation, NotALine
from seatchains.lines import Line
from seatchains.plans import count, least_plan, plan_at
from tests.reference import (are_blocks, crowded_line, every_plan, far_places, fewest_triples, is_free, is_itinerary,
                             load, small_lines, some_lines, stretched)
from tests.samples import DEEP, FAR, NOT_INTEGERS, TRIPS_24, ErrorCase
from tests.wrong import LINE, NOT_LINES, PLAN, WRONG_PLANS

CALLS = (itinerary, blocks)


class PassengerCase(ErrorCase):

    def check(self, line, plan, start, end, many):
        """The itinerary has so many triples, and the blocks show that it needs them; return the itinerary."""
        triples, pairs = itinerary(line, plan, start, end), blocks(line, plan, start, end)
        self.assertEqual([itinerary(line, plan, start, end), blocks(line, plan, start, end)], [triples, pairs])
        if many is None:
            self.assertEqual([triples, pairs], [None, None])
            return None
        self.assertEqual([type(triples), type(pairs)], [tuple, tuple])
        self.assertEqual([(type(row), *map(type, row)) for row in triples], [(tuple, int, int, int)] * many)
        self.assertEqual([(type(row), *map(type, row)) for row in pairs], [(tuple, int, int)] * (many - 1))
        self.assertTrue(is_itinerary(line, plan, start, end, triples), (str(line), plan, start, end, triples))
        self.assertTrue(are_blocks(line, plan, start, end, pairs), (str(line), plan, start, end, pairs))
        return triples

    def check_near(self, line, plan, start, end):
        """The same for stations near to each other, where the number of triples can be found out one by one."""
        blocked = any(load(line, station) >= line.capacity for station in range(start, end))
        many = fewest_triples(line, plan, start, end)
        self.assertEqual(many is None, blocked)
        return self.check(line, plan, start, end, many)

    def check_all(self, line, plan, last):
        for start in range(last):
            for end in range(start + 1, last + 1):
                self.check_near(line, plan, start, end)


class NearTest(PassengerCase):

    def test_by_position_and_by_name(self):
        line = Line.read("2 ann:0-3 bob:3-6 carl:7-8")
        plan = (("ann", 1), ("bob", 2), ("carl", 2))
        self.assertEqual([itinerary(line, plan, 1, 9), itinerary(end=9, start=1, plan=plan, line=line)],
                         [((2, 1, 3), (1, 3, 9))] * 2)
        self.assertEqual(blocks(line, plan, 1, 9), blocks(end=9, start=1, plan=plan, line=line))
        self.assertEqual([len(blocks(line, plan, 1, 9)), blocks(line, plan, 3, 9)], [1, ()])

    def test_all_ways_in_small_lines(self):
        for seats in (1, 2, 3):
            for line in small_lines(seats, 3 if seats < 3 else 2):
                for plan in every_plan(line):
                    self.check_all(line, plan, 5)

    def test_some_more_lines(self):
        rng = random.Random(151)
        for line in some_lines(152, 120, 4, 6, 9):
            plans = every_plan(line)
            if plans:
                self.check_all(line, rng.choice(plans), 11)

    def test_crowded_lines_with_a_seat_to_spare(self):
        rng = random.Random(153)
        most = 0
        for seats in (1, 2, 3, 5, 9, 19):
            for gap in (0, 1, 3):
                line, _ = crowded_line(rng, seats, 24, 5, gap)
                line = Line(seats + 1, line.trips)
                plan = plan_at(line, rng.randrange(count(line)))
                last = max(end for _, _, end in line.trips)
                most = max(most, len(self.check_near(line, plan, 0, last + 2)))
                for _ in range(10):
                    start = rng.randrange(last)
                    self.check_near(line, plan, start, rng.randint(start + 1, last + 2))
        self.assertGreater(most, 4)

    def test_before_behind_and_far_beyond(self):
        for start, end in ((0, 4), (0, 1), (12, 13), (50, 51)):
            self.check_near(Line.read("2 a:4-9 b:6-12"), (("a", 1), ("b", 2)), start, end)
        line, plan = Line.read("2 a:4-9 b:8-12"), (("a", 1), ("b", 2))
        for start, end, many in ((0, 4, 1), (12, FAR, 1), (FAR - 1, FAR, 1), (9, FAR, 1), (0, 8, 1), (0, 9, None),
                                 (8, 9, None), (8, FAR, None), (7, 9, None), (0, FAR, None)):
            self.check(line, plan, start, end, many)
        touching = Line.read("2 a:4-8 b:8-12")
        for start, end, many in ((0, FAR, 2), (0, 8, 1), (8, FAR, 1), (7, 9, 2), (5, 8, 1)):
            self.check(touching, plan, start, end, many)

    def test_one_stretch_alone(self):
        line, plan = Line.read("2 a:4-8 b:5-6"), (("a", 1), ("b", 2))
        self.assertEqual([itinerary(line, plan, 4, 5), blocks(line, plan, 4, 5)], [((2, 4, 5),), ()])
        self.assertEqual([itinerary(line, plan, 5, 6), blocks(line, plan, 5, 6)], [None, None])
        self.assertEqual([itinerary(line, plan, 6, 7), blocks(line, plan, 6, 7)], [((2, 6, 7),), ()])

    def test_without_trips(self):
        for seats in (1, 2, 20):
            for start, end in ((0, 1), (5, 9), (0, FAR)):
                self.check(Line(seats), (), start, end, 1)

    def test_many_changes(self):
        names = [name for name, _, _ in TRIPS_24]
        line = Line(2, tuple((name, at, at + 1) for at, name in enumerate(names)))
        plan = tuple((name, 1 + at % 2) for at, name in enumerate(names))
        triples = self.check_near(line, plan, 0, 24)
        self.assertEqual([seat for seat, _, _ in triples], [2, 1] * 12)
        self.check(line, plan, 0, FAR, 24)
        self.check_near(line, plan, 3, 21)

    def test_a_full_stretch_only_counts_on_the_way(self):
        line, plan = Line.read("2 a:4-8 b:5-6"), (("a", 2), ("b", 1))
        self.check_all(line, plan, 10)


class FarTest(PassengerCase):

    def test_stretched_lines(self):
        rng = random.Random(161)
        for line in some_lines(162, 60, 4, 6, 9):
            plans = every_plan(line)
            for digits in (30, 70):
                places = far_places(rng, 10, digits)
                far = stretched(line, places)
                for _ in range(6 if plans else 0):
                    plan = rng.choice(plans)
                    start, end = sorted(rng.sample(range(10), 2))
                    many = fewest_triples(line, plan, start, end)
                    self.check(far, plan, places[start], places[end], many)

    def test_stations_between_the_stops(self):
        rng = random.Random(163)
        for line in some_lines(164, 80, 3, 6, 9):
            plan = least_plan(line)
            if plan is not None:
                wide = stretched(line, [1000 ** 9 * at for at in range(10)])
                start, end = sorted(rng.sample(range(10), 2))
                for shift in (1, 2, 1000 ** 9 - 1):
                    # A way that starts behind a stop and ends behind one needs what the near one needs up to the next.
                    many = fewest_triples(line, plan, start, end + 1)
                    self.check(wide, plan, 1000 ** 9 * start + shift, 1000 ** 9 * end + shift, many)

    def test_24_trips_with_20_seats(self):
        rng = random.Random(165)
        large = Line(20, TRIPS_24)
        for _ in range(10):
            plan = plan_at(large, rng.randrange(count(large)))
            one = any(is_free(large, plan, seat, 0, FAR) for seat in range(1, 21))
            self.check(large, plan, 0, FAR, 1 if one else len(itinerary(large, plan, 0, FAR)))
            self.check_near(large, plan, 0, 30)


class ErrorsTest(ErrorCase):

    def check_valid(self):
        self.assertEqual([itinerary(LINE, PLAN, 4, 9), blocks(LINE, PLAN, 4, 9)], [((1, 4, 9),), ()])
        self.assertEqual([itinerary(LINE, PLAN, 1, 9), blocks(LINE, PLAN, 1, 9)], [None, None])

    def test_lines(self):
        for call in CALLS:
            for thing in NOT_LINES:
                self.assert_error(NotALine, {"value": thing}, call, thing, PLAN, 0, 1)
                self.assert_error(NotALine, {"value": thing}, call, thing, thing, thing, thing)
        self.check_valid()

    def test_plans(self):
        for call in CALLS:
            for thing, index in WRONG_PLANS:
                self.assert_error(InvalidPlan, {"index": index}, call, LINE, thing, 0, 1)
                self.assert_error(InvalidPlan, {"index": index}, call, LINE, thing, None, None)
        self.check_valid()

    def test_stations(self):
        for call in CALLS:
            for thing in [*NOT_INTEGERS, *DEEP, -1, -FAR]:
                self.assert_error(InvalidStation, {"station": thing}, call, LINE, PLAN, thing, 9)
                self.assert_error(InvalidStation, {"station": thing}, call, LINE, PLAN, thing, None)
            for thing in [*NOT_INTEGERS, *DEEP, -1, 0, -FAR]:
                self.assert_error(InvalidStation, {"station": thing}, call, LINE, PLAN, 0, thing)
            for start, end in ((3, 3), (3, 2), (FAR, FAR), (FAR, 0), (0, True), (1, 1), (2, True)):
                self.assert_error(InvalidStation, {"station": end}, call, LINE, PLAN, start, end)
        self.check_valid()

    def test_overfull_lines_have_no_plans(self):
        line = Line.read("1 a:0-3 b:2-5")
        for call in CALLS:
            self.assert_error(InvalidPlan, {"index": 1}, call, line, (("a", 1), ("b", 1)), 5, 6)
            self.assert_error(InvalidPlan, {"index": 0}, call, line, (), 5, 6)

    def test_true_behind_1(self):
        wrong = (("ann", True), ("bob", 2), ("carl", 1))
        for _ in range(2):
            for call, worth in zip(CALLS, (((2, 1, 2),), ())):
                self.assertEqual(call(LINE, PLAN, 1, 2), worth)
                self.assert_error(InvalidStation, {"station": True}, call, LINE, PLAN, True, 2)
                self.assertEqual(len(call(LINE, PLAN, 0, 1)), len(worth))
                self.assert_error(InvalidStation, {"station": True}, call, LINE, PLAN, 0, True)
                self.assert_error(InvalidStation, {"station": False}, call, LINE, PLAN, False, 1)
                self.assert_error(InvalidPlan, {"index": 0}, call, LINE, wrong, 1, 2)


if __name__ == "__main__":
    unittest.main()
