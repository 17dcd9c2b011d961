"""following.py: follows and always_follows."""

import random
import unittest

from seatchains.errors import InvalidPlan, NotALine, Overfull
from seatchains.following import always_follows, follows
from seatchains.lines import Line
from seatchains.plans import all_plans, count, plan_at
from tests.reference import (crowded_line, every_plan, far_places, followers, least_overfull, small_lines, some_lines,
                             stretched)
from tests.samples import FAR, NAMES_24, TRIPS_24, ErrorCase
from tests.wrong import LINE, LINE_24, NOT_LINES, PLAN, WRONG_PLANS


class FollowsTest(ErrorCase):

    def check(self, line, plan):
        found = follows(line, plan)
        self.assertIs(type(found), tuple)
        self.assertEqual([type(pair) for pair in found], [tuple] * len(found))
        self.assertEqual(found, tuple(sorted(followers(line, plan))))
        self.assertEqual(follows(line, plan), found)
        # Each trip but the first one in its seat follows one other.
        self.assertEqual(len(found), len(line) - len({seat for _, seat in plan}))

    def test_by_position_and_by_name(self):
        line = Line.read("2 ann:0-3 bob:1-9 carl:5-7 dora:9-10")
        plan = (("ann", 1), ("bob", 2), ("carl", 1), ("dora", 2))
        self.assertEqual([follows(line, plan), follows(plan=plan, line=line)],
                         [(("ann", "carl"), ("bob", "dora"))] * 2)
        self.assertEqual(follows(line, plan[:3] + (("dora", 1),)), (("ann", "carl"), ("carl", "dora")))

    def test_all_plans_of_small_lines(self):
        for seats in (1, 2, 3):
            for line in small_lines(seats, 3 if seats < 3 else 2, 4):
                for plan in every_plan(line):
                    self.check(line, plan)

    def test_names_against_the_order_of_the_line(self):
        line = Line.read("1 ann:7-9 bob:3-7 carl:0-1")
        self.assertEqual(follows(line, (("ann", 1), ("bob", 1), ("carl", 1))), (("bob", "ann"), ("carl", "bob")))

    def test_large_lines(self):
        rng = random.Random(171)
        for seats in range(1, 21):
            line, plan = crowded_line(rng, seats, 24, 9, 2)
            self.check(line, plan)
            self.check(line, plan_at(line, rng.randrange(count(line))))
            last = max(end for _, _, end in line.trips)
            self.check(stretched(line, far_places(rng, last + 1)), plan)

    def test_without_trips(self):
        for seats in (1, 2, 20):
            self.assertEqual(follows(Line(seats), ()), ())

    def test_one_seat(self):
        line = Line(1, tuple((name, 3 * at, 3 * at + 2) for at, name in enumerate(NAMES_24)))
        self.assertEqual(follows(line, tuple((name, 1) for name in NAMES_24)), tuple(zip(NAMES_24, NAMES_24[1:])))


class AlwaysFollowsTest(ErrorCase):

    def check(self, line):
        """Compare with all plans of the line."""
        plans = every_plan(line)
        station = least_overfull(line)
        if station is not None:
            self.assertEqual(plans, [])
            self.assert_error(Overfull, {"station": station}, always_follows, line)
            return None
        found = always_follows(line)
        self.assertIs(type(found), tuple)
        self.assertEqual([type(pair) for pair in found], [tuple] * len(found))
        worth = set.intersection(*[followers(line, plan) for plan in plans])
        self.assertEqual(found, tuple(sorted(worth)), str(line))
        self.assertEqual(always_follows(line), found)
        return found

    def test_by_position_and_by_name(self):
        line = Line.read("2 ann:0-3 bob:1-9 carl:5-7 dora:9-10")
        self.assertEqual([always_follows(line), always_follows(line=line)], [(("ann", "carl"),)] * 2)

    def test_small_lines(self):
        for seats in (1, 2, 3):
            for line in small_lines(seats, 3, 4):
                self.check(line)

    def test_some_more_lines(self):
        found = [self.check(line) for line in some_lines(181, 300, 3, 6, 9)]
        self.assertIn((), found)
        self.assertIn(None, found)
        self.assertGreater(len([pairs for pairs in found if pairs]), 15)

    def test_crowded_lines(self):
        rng = random.Random(182)
        for _ in range(60):
            self.check(crowded_line(rng, rng.randint(1, 3), rng.randint(4, 7), 4, rng.choice((0, 1)))[0])

    def test_trips_that_touch(self):
        self.assertEqual(self.check(Line.read("2 a:0-3 b:1-9 c:3-5")), (("a", "c"),))
        self.assertEqual(self.check(Line.read("1 a:0-3 b:3-9 c:9-10")), (("a", "b"), ("b", "c")))

    def test_two_that_end_together(self):
        self.assertEqual(self.check(Line.read("2 a:0-3 b:1-3 c:3-5")), ())
        self.assertEqual(self.check(Line.read("3 a:0-3 b:1-3 c:0-9 d:4-5 e:4-7")), ())

    def test_two_that_start_together(self):
        self.assertEqual(self.check(Line.read("2 a:0-3 b:0-9 c:4-5 d:9-10")), (("a", "c"),))
        self.assertEqual(self.check(Line.read("1 a:0-3 b:3-5")), (("a", "b"),))
        self.assertEqual(self.check(Line.read("3 a:0-3 b:0-4 c:0-9 d:5-6 e:5-7")), ())
        self.assertEqual(self.check(Line.read("3 a:0-3 b:0-9 c:0-9 d:5-6 e:6-7")), (("a", "d"), ("d", "e")))

    def test_one_that_ends_or_starts_in_between(self):
        self.assertEqual(self.check(Line.read("2 a:0-3 b:0-4 c:5-6")), ())
        self.assertEqual(self.check(Line.read("2 a:0-3 b:0-5 c:5-6")), ())
        self.assertEqual(self.check(Line.read("2 a:0-3 b:0-6 c:5-6")), (("a", "c"),))
        self.assertEqual(self.check(Line.read("2 a:0-3 b:0-9 c:4-5 d:6-7")), (("a", "c"), ("c", "d")))

    def test_a_last_stretch_that_is_not_full(self):
        self.assertEqual(self.check(Line.read("2 a:0-3 c:3-5")), ())
        self.assertEqual(self.check(Line.read("3 a:0-3 b:0-9 c:3-5")), ())
        self.assertEqual(self.check(Line.read("2 a:0-3 b:0-2 c:3-5")), ())
        self.assertEqual(self.check(Line.read("2 a:0-3 b:2-4 c:3-5")), (("a", "c"),))

    def test_without_trips(self):
        for seats in (1, 2, 20):
            self.assertEqual(always_follows(Line(seats)), ())

    def test_one_seat(self):
        line = Line(1, tuple((name, 3 * at, 3 * at + 2) for at, name in enumerate(NAMES_24)))
        self.assertEqual(always_follows(line), tuple(zip(NAMES_24, NAMES_24[1:])))

    def test_24_trips(self):
        both = [set(follows(LINE_24, plan)) for plan in all_plans(LINE_24)]
        self.assertEqual(always_follows(LINE_24), tuple(sorted(both[0] & both[1])))
        self.assertEqual(always_follows(LINE_24), tuple(zip(NAMES_24, NAMES_24[2:])))
        self.assertEqual(always_follows(Line(20, TRIPS_24)), ())
        longer = tuple((name, at, at + 20) for at, name in enumerate(NAMES_24))
        self.assertEqual(always_follows(Line(20, longer)), tuple(zip(NAMES_24, NAMES_24[20:])))

    def test_far_apart(self):
        rng = random.Random(183)
        for line in some_lines(184, 60, 3, 5, 6):
            places = far_places(rng, 7)
            far = stretched(line, places)
            station = least_overfull(line)
            if station is None:
                self.assertEqual(always_follows(far), always_follows(line))
            else:
                self.assert_error(Overfull, {"station": places[station]}, always_follows, far)
        far = Line(2, (("a", 0, FAR - 2), ("b", 0, FAR), ("c", FAR - 1, FAR)))
        self.assertEqual(always_follows(far), (("a", "c"),))

    def test_overfull_lines(self):
        for text, station in (("1 a:0-3 b:2-5", 2), ("2 a:0-9 b:3-8 c:7-8 d:1-2", 7), ("1 a:5-9 b:5-6 c:1-4 d:3-4", 3)):
            self.assertIsNone(self.check(Line.read(text)))
            self.assert_error(Overfull, {"station": station}, always_follows, Line.read(text))


class ErrorsTest(ErrorCase):

    def check_valid(self):
        self.assertEqual([follows(LINE, PLAN), always_follows(LINE)], [(("ann", "carl"),)] * 2)

    def test_lines(self):
        for thing in NOT_LINES:
            self.assert_error(NotALine, {"value": thing}, follows, thing, PLAN)
            self.assert_error(NotALine, {"value": thing}, follows, thing, thing)
            self.assert_error(NotALine, {"value": thing}, always_follows, thing)
        self.check_valid()

    def test_plans(self):
        self.assert_errors(InvalidPlan, "index", WRONG_PLANS, follows, LINE)
        self.check_valid()
        self.assert_error(InvalidPlan, {"index": 1}, follows, Line.read("1 a:0-3 b:2-5"), (("a", 1), ("b", 1)))

    def test_true_behind_1(self):
        for _ in range(2):
            self.check_valid()
            wrong = (("ann", True), ("bob", 2), ("carl", 1))
            self.assert_error(InvalidPlan, {"index": 0}, follows, LINE, wrong)


if __name__ == "__main__":
    unittest.main()
