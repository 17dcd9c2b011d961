"""shifting.py: free_seats, shifts and stuck."""

import random
import unittest

from seatchains.chains import exchanged, follow, is_shift
from seatchains.errors import InvalidName, InvalidPlan, NotALine, TooManyPlans
from seatchains.lines import Line
from seatchains.plans import all_plans, count, least_plan, plan_at
from seatchains.shifting import free_seats, shifts, stuck
from tests.reference import (chain_of, crowded_line, every_plan, every_shift, far_places, load, shift_distances,
                             small_lines, some_lines, stretched)
from tests.samples import FAR, NAMES_24, TRIPS_24, ErrorCase
from tests.wrong import GOAL, LINE, LINE_24, NOT_LINES, PLAN, WRONG_NAMES, WRONG_PLANS

# A line with 2000 plans, its three parts, which have nothing to do with each other, and a line with a few more plans.
LINE_2000 = Line.read("5 a:0-2 b:1-3 c:4-6 d:5-7 e:8-9")
PARTS = [Line.read("5 a:0-2 b:1-3"), Line.read("5 c:4-6 d:5-7"), Line.read("5 e:8-9")]
LINE_2028 = Line.read("13 a:0-2 b:1-3 c:4-5")
LARGE = Line(20, TRIPS_24)
# No stretch is full.
EASY = Line.read("3 a:0-3 b:2-5 c:4-7 d:6-9")


def cut(part, plan):
    """The pairs of the plan that belong to a part of its line."""
    return tuple(pair for pair in plan if pair[0] in part.order)


def is_full(line):
    return any(load(line, station) >= line.capacity for _, start, end in line.trips for station in range(start, end))


class FreeSeatsTest(ErrorCase):

    def check(self, line, plan):
        for name, own in plan:
            found = free_seats(line, plan, name)
            self.assertEqual([type(found), *[type(seat) for seat in found]], [tuple] + [int] * len(found))
            others = [seat for seat in range(1, line.capacity + 1) if seat != own]
            worth = [seat for seat in others if chain_of(line, plan, name, seat) == {name}]
            self.assertEqual(found, tuple(worth))
            for seat in others:
                self.assertIs(is_shift(line, plan, name, seat), seat in found)
                self.assertEqual(sum(one != two for one, two in zip(plan, exchanged(line, plan, name, seat))) == 1,
                                 seat in found)

    def test_by_position_and_by_name(self):
        line, plan = Line.read("4 ann:0-3 bob:2-5 carl:3-4"), (("ann", 3), ("bob", 2), ("carl", 4))
        self.assertEqual([free_seats(line, plan, name) for name in ("ann", "bob", "carl")], [(1, 4), (1,), (1, 3)])
        self.assertEqual(free_seats(name="ann", plan=plan, line=line), (1, 4))
        self.assertEqual(free_seats(line, plan, name="bob"), (1,))

    def test_all_plans_of_small_lines(self):
        for seats in (1, 2, 3):
            for line in small_lines(seats, 3 if seats < 3 else 2):
                for plan in every_plan(line):
                    self.check(line, plan)

    def test_trips_that_touch_do_not_meet(self):
        line = Line.read("2 a:0-3 b:3-5 c:5-9")
        self.assertEqual([free_seats(line, plan, "b") for plan in every_plan(line)], [(2,), (2,), (1,), (1,)] * 2)

    def test_24_trips_with_20_seats(self):
        rng = random.Random(121)
        for _ in range(5):
            self.check(LARGE, plan_at(LARGE, rng.randrange(count(LARGE))))
        for longest in (1, 9, 40):
            line, plan = crowded_line(rng, 20, 24, longest, 2)
            self.check(line, plan)
            self.check(line, plan_at(line, rng.randrange(count(line))))

    def test_stations_far_apart(self):
        rng = random.Random(122)
        for seats in (2, 5, 20):
            line, plan = crowded_line(rng, seats, 24, 9, 2)
            last = max(end for _, _, end in line.trips)
            for digits in (30, 70):
                far = stretched(line, far_places(rng, last + 1, digits))
                self.check(far, plan)
                for name, _ in plan:
                    self.assertEqual(free_seats(far, plan, name), free_seats(line, plan, name))
        self.assertEqual(free_seats(Line(3, (("a", 0, FAR), ("b", FAR - 1, FAR))), (("a", 2), ("b", 3)), "b"), (1,))

    def test_one_seat_more(self):
        rng = random.Random(123)
        for seats in range(1, 20):
            line, plan = crowded_line(rng, seats, 24, 9, 2)
            more = Line(seats + 1, line.trips)
            self.check(more, plan)
            for name, _ in plan:
                self.assertEqual(free_seats(more, plan, name), free_seats(line, plan, name) + (seats + 1,))

    def test_one_seat(self):
        line, plan = Line.read("1 a:0-3 b:3-5"), (("a", 1), ("b", 1))
        self.assertEqual([free_seats(line, plan, "a"), free_seats(line, plan, "b")], [(), ()])

    def test_one_trip_alone(self):
        for seats in (1, 2, 20):
            for seat in range(1, seats + 1):
                others = tuple(each for each in range(1, seats + 1) if each != seat)
                self.assertEqual(free_seats(Line(seats, (("a", 5, 6),)), (("a", seat),), "a"), others)


class ShiftsTest(ErrorCase):

    def check(self, line, plan, goal, many):
        """So many shifts lead to the goal, or none do."""
        found = shifts(line, plan, goal)
        self.assertEqual(shifts(line, plan, goal), found)
        if many is None:
            self.assertIs(found, None)
            return
        self.assertIs(type(found), tuple)
        self.assertEqual([(type(pair), type(pair[0]), type(pair[1])) for pair in found], [(tuple, str, int)] * many)
        present = plan
        for name, seat in found:
            self.assertIn((name, seat), every_shift(line, present))
            self.assertIs(is_shift(line, present, name, seat), True)
            present = exchanged(line, present, name, seat)
        self.assertEqual([present, follow(line, plan, found)], [goal, goal])

    def check_all(self, line, plans, starts):
        for plan in starts:
            found = shift_distances(line, plan)
            for goal in plans:
                self.check(line, plan, goal, found.get(goal))
            if not is_full(line):
                self.assertEqual(len(found), len(plans))

    def test_by_position_and_by_name(self):
        self.assertEqual([shifts(LINE, PLAN, GOAL), shifts(LINE, PLAN, PLAN), shifts(LINE, GOAL, GOAL)], [None, (), ()])
        line = Line.read("2 a:0-3 b:5-7")
        self.assertEqual(shifts(line, (("a", 1), ("b", 2)), (("a", 1), ("b", 1))), (("b", 1),))
        self.assertEqual(shifts(goal=(("a", 1), ("b", 1)), line=line, plan=(("a", 1), ("b", 2))), (("b", 1),))

    def test_between_all_plans_of_small_lines(self):
        for seats in (1, 2):
            for line in small_lines(seats, 3):
                plans = every_plan(line)
                self.check_all(line, plans, plans)

    def test_three_and_four_seats(self):
        for line in some_lines(131, 40, 4, 4, 6):
            plans = every_plan(line)
            self.check_all(line, plans, plans[::9])

    def test_five_and_six_trips(self):
        for line in some_lines(132, 40, 3, 6, 9):
            plans = every_plan(line)
            if len(plans) <= 300:
                self.check_all(line, plans, plans[::50])

    def test_never_none_where_no_stretch_is_full(self):
        rng = random.Random(133)
        for seats in (3, 4, 5):
            for _ in range(6):
                line, _ = crowded_line(rng, seats - 1, rng.randint(seats, 6), 4)
                line = Line(seats, line.trips)
                if count(line) <= 2000:
                    plans = list(all_plans(line))
                    found = shift_distances(line, plans[0])
                    self.assertEqual(sorted(found), sorted(plans))
                    for goal in rng.sample(plans, 9):
                        self.check(line, plans[0], goal, found[goal])
        for plan in all_plans(EASY):
            for goal in all_plans(EASY):
                self.assertIsNotNone(shifts(EASY, plan, goal))

    def test_one_seat_and_no_trips(self):
        line = Line(1, tuple((name, at, at + 1) for at, name in enumerate(NAMES_24)))
        plan = least_plan(line)
        self.check(line, plan, plan, 0)
        for seats in (1, 2, 20):
            self.check(Line(seats), (), (), 0)

    def test_exactly_2000_plans(self):
        self.assertEqual(count(LINE_2000), 2000)
        plans = [plan_at(LINE_2000, number) for number in (0, 77, 1234, 1999)]
        for plan in plans:
            parts = [shift_distances(part, cut(part, plan)) for part in PARTS]
            for goal in plans:
                many = sum(found[cut(part, goal)] for part, found in zip(PARTS, parts))
                self.check(LINE_2000, plan, goal, many)

    def test_many_trips_with_few_plans(self):
        first, second = all_plans(LINE_24)
        self.check(LINE_24, first, second, None)
        self.check(LINE_24, second, second, 0)
        apart = Line(2, tuple((name, 2 * at, 2 * at + 1) for at, name in enumerate(NAMES_24[:10])))
        self.check(apart, least_plan(apart), plan_at(apart, 1023), 10)
        self.check(apart, plan_at(apart, 3), plan_at(apart, 4), 3)

    def test_far_apart(self):
        rng = random.Random(134)
        for line in some_lines(135, 30, 3, 4, 6):
            far = stretched(line, far_places(rng, 7))
            plans = every_plan(line)
            for plan in plans[::7]:
                found = shift_distances(line, plan)
                for goal in plans:
                    self.check(far, plan, goal, found.get(goal))

    def test_too_many_plans(self):
        for line, total in ((LINE_2028, 2028), (LARGE, 20 * 19 ** 23)):
            self.assertEqual(count(line), total)
            for plan in (least_plan(line), plan_at(line, total - 1)):
                self.assert_error(TooManyPlans, {"found": total}, shifts, line, plan, plan)
                self.assert_error(TooManyPlans, {"found": total}, shifts, line, plan, least_plan(line))
                self.assert_error(InvalidPlan, {"index": len(line)}, shifts, line, plan, plan + plan)
                self.assert_error(InvalidPlan, {"index": len(line) - 1}, shifts, line, plan, plan[:-1])
                self.assert_error(InvalidPlan, {"index": None}, shifts, line, plan, None)
                self.assert_error(InvalidPlan, {"index": None}, shifts, line, list(plan), plan)
                self.assert_error(InvalidPlan, {"index": 0}, shifts, line, (), None)


class StuckTest(ErrorCase):

    def check(self, line, plan):
        found = stuck(line, plan)
        reached = shift_distances(line, plan)
        worth = tuple(name for name, seat in plan if all((name, seat) in other for other in reached))
        self.assertIs(type(found), tuple)
        self.assertEqual([found, stuck(line, plan)], [worth, worth])
        return found

    def test_by_position_and_by_name(self):
        line = Line.read("2 ann:0-3 bob:2-5 carl:8-9")
        plan = (("ann", 1), ("bob", 2), ("carl", 1))
        self.assertEqual([stuck(line, plan), stuck(plan=plan, line=line)], [("ann", "bob")] * 2)

    def test_all_plans_of_small_lines(self):
        for seats in (1, 2):
            for line in small_lines(seats, 3):
                for plan in every_plan(line):
                    self.check(line, plan)

    def test_some_more_lines(self):
        sizes = []
        for line in some_lines(141, 80, 3, 6, 9):
            plans = every_plan(line)
            if len(plans) <= 300:
                sizes += [(len(self.check(line, plan)), len(line)) for plan in plans[::70]]
        self.assertTrue(any(0 < few < many for few, many in sizes))

    def test_trips_that_get_free_only_behind_other_shifts(self):
        line = Line.read("3 a:0-2 b:1-4 c:1-3 d:3-6")
        plan = (("a", 1), ("b", 2), ("c", 3), ("d", 3))
        self.assertEqual(free_seats(line, plan, "b"), ())
        self.assertEqual(free_seats(line, plan, "d"), (1,))
        self.check(line, plan)
        chained = Line.read("3 a:0-2 b:1-3 c:2-4 d:3-5")
        for plan in every_plan(chained):
            self.assertEqual(self.check(chained, plan), ())

    def test_one_seat_and_no_trips(self):
        line = Line(1, tuple((name, at, at + 1) for at, name in enumerate(NAMES_24)))
        self.assertEqual(stuck(line, least_plan(line)), NAMES_24)
        for seats in (1, 2, 20):
            self.assertEqual(stuck(Line(seats), ()), ())

    def test_many_plans(self):
        for number in (0, 77, 1999):
            self.assertEqual(stuck(LINE_2000, plan_at(LINE_2000, number)), ())
        line = Line(2, LINE_24.trips[:14] + tuple((name, 2 * at + 40, 2 * at + 41) for at, name in
                                                  enumerate(NAMES_24[14:])))
        self.assertEqual(count(line), 2048)
        self.assert_error(TooManyPlans, {"found": 2048}, stuck, line, least_plan(line))
        fewer = line.without("x")
        for number in (0, 511, 1023):
            self.assertEqual(stuck(fewer, plan_at(fewer, number)), NAMES_24[:14])

    def test_full_lines(self):
        for plan in all_plans(LINE_24):
            self.assertEqual(stuck(LINE_24, plan), NAMES_24)

    def test_too_many_plans(self):
        for line, total in ((LINE_2028, 2028), (LARGE, 20 * 19 ** 23)):
            plan = least_plan(line)
            self.assert_error(TooManyPlans, {"found": total}, stuck, line, plan)
            self.assert_error(InvalidPlan, {"index": len(line)}, stuck, line, plan + (None,))
            self.assert_error(InvalidPlan, {"index": None}, stuck, line, list(plan))


class ErrorsTest(ErrorCase):

    def check_valid(self):
        self.assertEqual([free_seats(LINE, PLAN, "ann"), shifts(LINE, PLAN, PLAN), stuck(LINE, PLAN)],
                         [(), (), ("ann", "bob", "carl")])

    def test_lines(self):
        for thing in NOT_LINES:
            self.assert_error(NotALine, {"value": thing}, free_seats, thing, PLAN, "ann")
            self.assert_error(NotALine, {"value": thing}, free_seats, thing, thing, thing)
            self.assert_error(NotALine, {"value": thing}, shifts, thing, PLAN, GOAL)
            self.assert_error(NotALine, {"value": thing}, shifts, thing, thing, thing)
            self.assert_error(NotALine, {"value": thing}, stuck, thing, PLAN)
            self.assert_error(NotALine, {"value": thing}, stuck, thing, thing)
        self.check_valid()

    def test_plans(self):
        for thing, index in WRONG_PLANS:
            self.assert_error(InvalidPlan, {"index": index}, free_seats, LINE, thing, "ann")
            self.assert_error(InvalidPlan, {"index": index}, free_seats, LINE, thing, None)
            self.assert_error(InvalidPlan, {"index": index}, shifts, LINE, thing, GOAL)
            self.assert_error(InvalidPlan, {"index": index}, shifts, LINE, thing, None)
            self.assert_error(InvalidPlan, {"index": index}, shifts, LINE, PLAN, thing)
            self.assert_error(InvalidPlan, {"index": index}, stuck, LINE, thing)
        self.check_valid()

    def test_names(self):
        self.assert_errors(InvalidName, "name", [(thing, thing) for thing in WRONG_NAMES], free_seats, LINE, PLAN)
        self.check_valid()
        self.assert_error(InvalidName, {"name": "a"}, free_seats, Line(2), (), "a")

    def test_overfull_lines_have_no_plans(self):
        line = Line.read("1 a:0-3 b:2-5")
        plan = (("a", 1), ("b", 1))
        self.assert_error(InvalidPlan, {"index": 1}, free_seats, line, plan, "a")
        self.assert_error(InvalidPlan, {"index": 1}, shifts, line, plan, plan)
        self.assert_error(InvalidPlan, {"index": 1}, stuck, line, plan)

    def test_true_behind_1(self):
        line, plan, wrong = Line.read("2 a:0-3 b:5-7"), (("a", 1), ("b", 2)), (("a", True), ("b", 2))
        for _ in range(2):
            self.assertEqual([free_seats(line, plan, "a"), stuck(line, plan), shifts(line, plan, plan)], [(2,), (), ()])
            self.assert_error(InvalidPlan, {"index": 0}, free_seats, line, wrong, "a")
            self.assert_error(InvalidPlan, {"index": 0}, stuck, line, wrong)
            self.assert_error(InvalidPlan, {"index": 0}, shifts, line, plan, wrong)
            self.assert_error(InvalidPlan, {"index": 0}, shifts, line, wrong, plan)


if __name__ == "__main__":
    unittest.main()
