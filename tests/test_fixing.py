"""fixing.py: fixed_plan and fixed_obstacle."""

import random
import unittest

from seatchains.errors import InvalidFixed, NotALine
from seatchains.fixing import fixed_obstacle, fixed_plan
from seatchains.lines import Line
from seatchains.plans import count, is_plan, overfull, plan_at
from tests.reference import (crowded_line, every_fixed, every_plan, far_places, is_obstacle, small_lines, some_lines,
                             starts_outside, stops_of, stretched, ways_out)
from tests.samples import FAR, NAMES_24, NOT_PAIRS, TRIPS_24, ErrorCase
from tests.wrong import LINE, NOT_LINES, NOT_TUPLES, PLAN, WRONG_FIXED

CALLS = (fixed_plan, fixed_obstacle)


class FixedCase(ErrorCase):

    def check(self, line, fixed):
        """Either there is a plan that keeps the fixed seats, or an obstacle of which all is true; return the plan."""
        plan, obstacle = fixed_plan(line, fixed), fixed_obstacle(line, fixed)
        self.assertEqual([fixed_plan(line, fixed), fixed_obstacle(line, fixed)], [plan, obstacle])
        if plan is None:
            self.assertTrue(is_obstacle(line, fixed, obstacle), (str(line), fixed, obstacle))
        else:
            self.assertIs(obstacle, None)
            self.assertIs(is_plan(line, plan), True)
            self.assertLessEqual(set(fixed), set(plan))
            self.assertEqual([(type(pair), type(pair[1])) for pair in plan], [(tuple, int)] * len(line))
        return plan

    def check_against_all(self, line):
        """The same for all fixed seats, and there is a plan exactly if one of all plans keeps them."""
        plans = [set(plan) for plan in every_plan(line)]
        for fixed in every_fixed(line):
            there_is = any(set(fixed) <= plan for plan in plans)
            self.assertEqual(self.check(line, fixed) is not None, there_is, (str(line), fixed))


class SmallTest(FixedCase):

    def test_by_position_and_by_name(self):
        line, fixed = Line.read("2 ann:0-1 bob:1-2 carl:0-3"), (("ann", 1), ("bob", 2))
        self.assertEqual([fixed_plan(line, fixed), fixed_plan(fixed=fixed, line=line)], [None, None])
        self.assertEqual(fixed_obstacle(line, fixed), fixed_obstacle(fixed=fixed, line=line))
        self.assertEqual(fixed_plan(line, (("ann", 2),)), (("ann", 2), ("bob", 2), ("carl", 1)))
        self.assertIs(fixed_obstacle(line, (("ann", 2),)), None)

    def test_all_small_lines(self):
        for seats in (1, 2):
            for line in small_lines(seats, 3, 4):
                self.check_against_all(line)

    def test_three_and_four_seats(self):
        for line in some_lines(91, 60, 4, 4, 6):
            self.check_against_all(line)
        for line in some_lines(92, 20, 3, 5, 8):
            self.check_against_all(line)

    def test_crowded_lines(self):
        rng = random.Random(93)
        for _ in range(25):
            line, _ = crowded_line(rng, rng.randint(2, 3), 5, 3, 1)
            self.check_against_all(line)

    def test_six_trips(self):
        rng = random.Random(94)
        for _ in range(4):
            self.check_against_all(crowded_line(rng, 3, 6, 3, 1)[0])

    def test_without_trips(self):
        for seats in (1, 2, 20):
            self.assertEqual([fixed_plan(Line(seats), ()), fixed_obstacle(Line(seats), ())], [(), None])
            for call in CALLS:
                self.assert_error(InvalidFixed, {"index": 0}, call, Line(seats), (("ann", 1),))
                self.assert_error(InvalidFixed, {"index": None}, call, Line(seats), [])

    def test_overfull_lines(self):
        for text, station in (("1 a:0-3 b:2-5", 2), ("2 a:0-9 b:3-8 c:7-8 d:1-2", 7), ("1 a:5-9 b:5-6 c:1-4 d:3-4", 3)):
            line = Line.read(text)
            for fixed in ((), (("a", 1),), (("b", 1),)):
                self.assertEqual([fixed_plan(line, fixed), fixed_obstacle(line, fixed)], [None, ("overfull", station)])
                self.assertIs(type(fixed_obstacle(line, fixed)), tuple)

    def test_a_cut_by_hand(self):
        line = Line.read("1 a:0-1 b:1-2")
        self.assertEqual(fixed_plan(line, (("b", 1),)), (("a", 1), ("b", 1)))
        line, fixed = Line.read("2 a:0-1 b:1-2 c:0-2"), (("a", 1), ("b", 2))
        word, stops = fixed_obstacle(line, fixed)
        self.assertEqual([word, stops], ["cut", (0, 2)])
        self.assertEqual([ways_out(line, fixed, stops), starts_outside(line, fixed, stops)], [0, 1])


class LargeTest(FixedCase):

    def some_fixed(self, rng, plan, most):
        """Some pairs of the plan, with different seats."""
        fixed = {}
        for name, seat in rng.sample(plan, len(plan)):
            if len(fixed) < most and seat not in fixed.values():
                fixed[name] = seat
        return tuple(sorted(fixed.items()))

    def test_seats_that_some_plan_has(self):
        rng = random.Random(101)
        for seats in range(1, 21):
            for gap in (0, 3):
                line, plan = crowded_line(rng, seats, 24, 9, gap)
                other = plan_at(line, rng.randrange(count(line)))
                for most in (0, 1, 2, seats):
                    self.assertIsNotNone(self.check(line, self.some_fixed(rng, plan, most)))
                    self.assertIsNotNone(self.check(line, self.some_fixed(rng, other, most)))

    def test_any_seats(self):
        rng = random.Random(102)
        outcomes = []
        for _ in range(400):
            line, _ = crowded_line(rng, rng.randint(2, 20), 24, rng.randint(1, 12), rng.choice((0, 0, 1, 2)))
            many = rng.randint(1, line.capacity)
            names = sorted(rng.sample([name for name, _, _ in line.trips], many))
            seats = rng.sample(range(1, line.capacity + 1), many)
            outcomes.append(self.check(line, tuple(zip(names, seats))) is None)
        self.assertGreater(outcomes.count(True), 30)
        self.assertGreater(outcomes.count(False), 30)

    def test_lines_of_any_load(self):
        rng = random.Random(103)
        for line in some_lines(104, 300, 20, 24, 60):
            names = [name for name, _, _ in line.trips]
            many = rng.randint(0, min(line.capacity, len(names)))
            seats = rng.sample(range(1, line.capacity + 1), many)
            plan = self.check(line, tuple(zip(sorted(rng.sample(names, many)), seats)))
            self.assertFalse(plan is not None and overfull(line) is not None)

    def test_far_apart(self):
        rng = random.Random(105)
        for line in some_lines(106, 60, 3, 5, 8):
            places = far_places(rng, 9)
            far = stretched(line, places)
            plans = [set(plan) for plan in every_plan(line)]
            for fixed in every_fixed(line):
                plan, obstacle = fixed_plan(far, fixed), fixed_obstacle(far, fixed)
                there_is = any(set(fixed) <= one for one in plans)
                self.assertEqual([plan is not None, obstacle is None], [there_is, there_is])
                if obstacle is not None:
                    word, thing = obstacle
                    near = tuple(map(places.index, thing)) if word == "cut" else places.index(thing)
                    self.assertTrue(is_obstacle(line, fixed, (word, near)))

    def test_all_trips_fixed(self):
        for seats in range(1, 21):
            line = Line(seats, tuple((name, 5, 6) for name in NAMES_24[:seats]))
            fixed = tuple((name, seats - at) for at, name in enumerate(NAMES_24[:seats]))
            self.assertEqual(self.check(line, fixed), fixed)
            apart = Line(seats, tuple((name, 2 * at, 2 * at + 3) for at, name in enumerate(NAMES_24[:seats])))
            self.assertEqual(self.check(apart, fixed) if seats > 1 else fixed, fixed)

    def test_no_trip_fixed(self):
        for line in (Line(20, TRIPS_24), Line(2, TRIPS_24), LINE):
            self.assertIsNotNone(self.check(line, ()))

    def test_one_trip_fixed_in_each_seat(self):
        for seats in (2, 3, 20):
            line = Line(seats, TRIPS_24)
            for name in NAMES_24:
                for seat in range(1, seats + 1):
                    self.assertIn((name, seat), self.check(line, ((name, seat),)))

    def test_two_trips_on_a_full_line(self):
        line = Line(2, TRIPS_24)
        for at in range(24):
            for other in range(at + 1, 24):
                plan = self.check(line, ((NAMES_24[at], 1), (NAMES_24[other], 2)))
                self.assertEqual(plan is not None, (other - at) % 2 == 1)
        self.assertEqual(len(stops_of(line)), 26)


class ErrorsTest(ErrorCase):

    def check_valid(self):
        self.assertEqual([call(LINE, (("ann", 1), ("bob", 2))) for call in CALLS], [PLAN, None])

    def test_lines(self):
        for call in CALLS:
            for thing in NOT_LINES:
                self.assert_error(NotALine, {"value": thing}, call, thing, ())
                self.assert_error(NotALine, {"value": thing}, call, thing, thing)
        self.check_valid()

    def test_fixed_seats(self):
        for call in CALLS:
            self.assert_errors(InvalidFixed, "index", WRONG_FIXED, call, LINE)
        self.check_valid()

    def test_fixed_seats_of_an_overfull_line(self):
        line = Line(2, LINE.trips + (("dora", 2, 5),))
        rows = [row for row in WRONG_FIXED if "dora" not in repr(row)]
        for call in CALLS:
            self.assert_errors(InvalidFixed, "index", rows, call, line)
        self.assertEqual([call(line, (("ann", 1), ("bob", 2))) for call in CALLS], [None, ("overfull", 2)])

    def test_fixed_seats_of_no_trip(self):
        for call in CALLS:
            for thing in NOT_PAIRS:
                self.assert_error(InvalidFixed, {"index": 0}, call, Line(2), (thing,))
            for thing in NOT_TUPLES:
                self.assert_error(InvalidFixed, {"index": None}, call, Line(2), thing)
            self.assert_error(InvalidFixed, {"index": 0}, call, Line(2), (("ann", FAR),))

    def test_true_behind_1(self):
        for call, worth in zip(CALLS, (PLAN, None)):
            for _ in range(2):
                self.assertEqual(call(LINE, (("ann", 1),)), worth)
                self.assert_error(InvalidFixed, {"index": 0}, call, LINE, (("ann", True),))
                self.assert_error(InvalidFixed, {"index": 1}, call, LINE, (("ann", 2), ("bob", True)))

    def test_seats_that_differ_only_by_kind(self):
        for call in CALLS:
            self.assert_error(InvalidFixed, {"index": 1}, call, LINE, (("ann", 1), ("bob", True)))


if __name__ == "__main__":
    unittest.main()
