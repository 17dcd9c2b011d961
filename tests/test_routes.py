"""chains.py: route, follow, steps and shortest."""

import random
import unittest

from seatchains.chains import follow, route, shortest, steps
from seatchains.errors import InvalidExchange, InvalidPlan, NotALine, TooManyPlans
from seatchains.lines import Line
from seatchains.plans import all_plans, count, least_plan, plan_at
from tests.reference import (after, crowded_line, distances, every_exchange, every_plan, far_places, small_lines,
                             some_lines, stretched)
from tests.samples import NAMES_24, TRIPS_24, ErrorCase
from tests.wrong import GOAL, LINE, NOT_LINES, PLAN, WRONG_EXCHANGES, WRONG_PLANS

# A line with 2000 plans, and its three parts, which have nothing to do with each other.
LINE_2000 = Line.read("5 a:0-2 b:1-3 c:4-6 d:5-7 e:8-9")
PARTS = [Line.read("5 a:0-2 b:1-3"), Line.read("5 c:4-6 d:5-7"), Line.read("5 e:8-9")]
LARGE = Line(20, TRIPS_24)


def walked(line, plan, exchanges):
    """The plans after each exchange, or None if one is not an exchange."""
    found = []
    for exchange in exchanges:
        if exchange not in every_exchange(line, plan):
            return None
        plan = after(line, plan, *exchange)
        found.append(plan)
    return found


def some_exchanges(rng, line, plan, many):
    """So many exchanges taken at random, one after the other."""
    found = []
    for _ in range(many):
        found.append(rng.choice(every_exchange(line, plan)))
        plan = after(line, plan, *found[-1])
    return tuple(found)


class RouteTest(ErrorCase):

    def check(self, line, plan, goal):
        exchanges = route(line, plan, goal)
        self.assertIs(type(exchanges), tuple)
        self.assertLessEqual(len(exchanges), len(line))
        self.assertEqual([(type(pair), type(pair[0]), type(pair[1])) for pair in exchanges],
                         [(tuple, str, int)] * len(exchanges))
        plans = walked(line, plan, exchanges)
        self.assertIsNotNone(plans)
        self.assertEqual(([plan] + plans)[-1], goal)
        self.assertEqual(follow(line, plan, exchanges), goal)
        self.assertEqual(route(line, plan, goal), exchanges)

    def test_by_position_and_by_name(self):
        self.assertIn(route(LINE, PLAN, GOAL), [(("ann", 2),), (("bob", 1),), (("carl", 2),)])
        self.assertEqual(route(goal=GOAL, plan=PLAN, line=LINE), route(LINE, PLAN, GOAL))

    def test_from_a_plan_to_itself(self):
        for line, plan in ((LINE, PLAN), (LINE, GOAL), (Line(3), ()), (LARGE, least_plan(LARGE))):
            self.check(line, plan, plan)

    def test_between_all_plans_of_small_lines(self):
        for seats in (1, 2):
            for line in small_lines(seats, 3):
                plans = every_plan(line)
                for plan in plans:
                    for goal in plans:
                        self.check(line, plan, goal)

    def test_between_plans_of_some_more_lines(self):
        rng = random.Random(31)
        for line in some_lines(32, 250, 4, 6, 8):
            plans = every_plan(line)
            for _ in range(10 if plans else 0):
                self.check(line, rng.choice(plans), rng.choice(plans))

    def test_24_trips_with_20_seats(self):
        rng = random.Random(33)
        for _ in range(30):
            plans = [plan_at(LARGE, rng.randrange(count(LARGE))) for _ in range(2)]
            self.check(LARGE, *plans)
            self.check(LARGE, *plans[::-1])

    def test_crowded_lines(self):
        rng = random.Random(34)
        for seats in range(1, 21):
            for gap in (0, 2):
                line, plan = crowded_line(rng, seats, 24, 9, gap)
                goal = plan_at(line, rng.randrange(count(line)))
                self.check(line, plan, goal)
                self.check(line, goal, plan)
                self.check(line, least_plan(line), plan_at(line, count(line) - 1))

    def test_far_apart(self):
        rng = random.Random(35)
        for line in some_lines(36, 60, 4, 5, 6):
            plans = every_plan(line)
            far = stretched(line, far_places(rng, 7))
            for _ in range(5 if plans else 0):
                self.check(far, rng.choice(plans), rng.choice(plans))


class FollowTest(ErrorCase):

    def check(self, line, plan, exchanges):
        plans = walked(line, plan, exchanges)
        self.assertEqual(list(steps(line, plan, exchanges)), plans)
        self.assertEqual(follow(line, plan, exchanges), ([plan] + plans)[-1])
        self.assertIs(type(follow(line, plan, exchanges)), tuple)

    def test_none_and_many(self):
        rng = random.Random(41)
        for line, plan in ((LINE, PLAN), (LINE_2000, least_plan(LINE_2000)), crowded_line(rng, 7, 24, 9, 1)):
            for many in (0, 1, 2, 3, 25, 60):
                self.check(line, plan, some_exchanges(rng, line, plan, many))
        self.check(Line(2), (), ())

    def test_by_position_and_by_name(self):
        exchanges = (("ann", 2), ("bob", 2), ("carl", 2))
        self.assertEqual(follow(LINE, PLAN, exchanges), GOAL)
        self.assertEqual(list(steps(LINE, PLAN, exchanges)), [GOAL, PLAN, GOAL])
        self.assertEqual(follow(exchanges=exchanges, line=LINE, plan=PLAN), GOAL)
        self.assertEqual(list(steps(plan=PLAN, exchanges=exchanges, line=LINE)), [GOAL, PLAN, GOAL])

    def test_there_and_back(self):
        rng = random.Random(42)
        line, plan = crowded_line(rng, 4, 24, 9, 1)
        exchanges = some_exchanges(rng, line, plan, 40)
        plans = [plan] + walked(line, plan, exchanges)
        back = tuple((name, dict(before)[name]) for (name, _), before in zip(exchanges, plans))[::-1]
        self.check(line, plan, exchanges + back)
        self.assertEqual(follow(line, plan, exchanges + back), plan)

    def test_one_seat(self):
        line, plan = Line.read("1 a:0-3 b:3-5"), (("a", 1), ("b", 1))
        self.check(line, plan, ())
        for pair in (("a", 1), ("b", 1), ("a", 2)):
            self.assert_error(InvalidExchange, {"index": 0}, follow, line, plan, (pair,))

    def test_it_is_a_generator(self):
        exchanges = (("ann", 2), ("bob", 2))
        walk = steps(LINE, PLAN, exchanges)
        self.assertIs(iter(walk), walk)
        self.assertEqual([next(walk), next(walk), next(walk, None), next(walk, None)], [GOAL, PLAN, None, None])
        self.assertEqual(list(steps(LINE, PLAN, ())), [])

    def test_two_walks_at_the_same_time(self):
        exchanges = (("ann", 2), ("bob", 2), ("carl", 2))
        first, second = steps(LINE, PLAN, exchanges), steps(LINE, PLAN, exchanges)
        third = steps(LINE, GOAL, (("ann", 1),))
        self.assertEqual([next(first), next(first), next(second), next(third)], [GOAL, PLAN, GOAL, PLAN])
        self.assertEqual([list(second), list(first), list(third)], [[PLAN, GOAL], [GOAL], []])
        self.assertEqual([one == two for one in steps(LINE, PLAN, exchanges) for two in steps(LINE, PLAN, exchanges)],
                         [True, False, True, False, True, False, True, False, True])

    def test_errors_come_before_the_first_plan(self):
        for bad in (("ann", 1), None, ["ann", 2], ("zoe", 1), ("ann", 0)):
            exchanges = (("ann", 2), ("ann", 1), bad)
            self.assert_error(InvalidExchange, {"index": 2}, lambda: next(steps(LINE, PLAN, exchanges)))


class ShortestTest(ErrorCase):

    def check(self, line, plan, goal, many):
        exchanges = shortest(line, plan, goal)
        self.assertIs(type(exchanges), tuple)
        self.assertEqual(len(exchanges), many)
        plans = walked(line, plan, exchanges)
        self.assertIsNotNone(plans)
        self.assertEqual(([plan] + plans)[-1], goal)
        self.assertEqual(follow(line, plan, exchanges), goal)
        self.assertEqual(shortest(line, plan, goal), exchanges)

    def check_all(self, line, starts):
        for plan in starts:
            found = distances(line, plan)
            self.assertEqual(len(found), count(line))
            for goal, many in found.items():
                self.check(line, plan, goal, many)

    def test_by_position_and_by_name(self):
        self.assertIn(shortest(LINE, PLAN, GOAL), [(("ann", 2),), (("bob", 1),), (("carl", 2),)])
        self.assertEqual(shortest(goal=GOAL, plan=PLAN, line=LINE), shortest(LINE, PLAN, GOAL))
        self.assertEqual([shortest(LINE, GOAL, GOAL), shortest(Line(20), (), ())], [(), ()])

    def test_between_all_plans_of_small_lines(self):
        for line in small_lines(2, 3):
            self.check_all(line, every_plan(line))

    def test_with_three_seats(self):
        for line in some_lines(51, 25, 3, 4, 6):
            self.check_all(line, every_plan(line)[::5])

    def test_fewer_exchanges_than_route_might_need(self):
        for line in some_lines(52, 12, 4, 5, 9):
            if 0 < count(line) <= 400:
                self.check_all(line, [least_plan(line)])

    def test_exactly_2000_plans(self):
        self.assertEqual(count(LINE_2000), 2000)
        plans = [plan_at(LINE_2000, number) for number in (0, 1, 77, 1234, 1998, 1999)]
        for plan in plans:
            parts = [distances(part, cut(part, plan)) for part in PARTS]
            for goal in plans:
                many = sum(found[cut(part, goal)] for part, found in zip(PARTS, parts))
                self.check(LINE_2000, plan, goal, many)

    def test_many_trips_with_few_plans(self):
        line = Line(2, TRIPS_24)
        first, second = all_plans(line)
        self.check(line, first, second, 1)
        pairs = Line(2, tuple((name, at, at + 1) if at < 10 else (name, 10, 11 + at) for at, name in
                              enumerate(NAMES_24[:12])))
        self.assertEqual(count(pairs), 2048)
        self.assert_error(TooManyPlans, {"found": 2048}, shortest, pairs, least_plan(pairs), least_plan(pairs))
        fewer = pairs.without("a")
        self.check(fewer, least_plan(fewer), plan_at(fewer, 1023), 10)

    def test_too_many_plans(self):
        for text, total in (("8 a:0-3 b:1-4 c:2-5 d:3-5", 8 * 7 * 6 * 6), ("13 a:0-1 b:1-2 c:2-3", 13 ** 3),
                            ("2 a:0-1 b:1-2 c:2-3 d:3-4 e:4-5 f:5-6 g:6-7 h:7-8 i:8-9 j:9-10 k:10-11", 2 ** 11)):
            line = Line.read(text)
            self.assertEqual(count(line), total)
            for plan in (least_plan(line), plan_at(line, total - 1)):
                self.assert_error(TooManyPlans, {"found": total}, shortest, line, plan, plan)
                self.assert_error(TooManyPlans, {"found": total}, shortest, line, plan, least_plan(line))
                self.assert_error(InvalidPlan, {"index": len(line)}, shortest, line, plan, plan + plan)
                self.assert_error(InvalidPlan, {"index": None}, shortest, line, list(plan), plan)
        total = 20 * 19 ** 23
        self.assert_error(TooManyPlans, {"found": total}, shortest, LARGE, least_plan(LARGE), least_plan(LARGE))
        self.assert_error(InvalidPlan, {"index": 0}, shortest, LARGE, least_plan(LARGE), ())


def cut(part, plan):
    """The pairs of the plan that belong to a part of its line."""
    return tuple(pair for pair in plan if pair[0] in part.order)


class ErrorsTest(ErrorCase):

    def test_lines(self):
        for thing in NOT_LINES:
            for call in (route, shortest, follow):
                self.assert_error(NotALine, {"value": thing}, call, thing, PLAN, GOAL)
                self.assert_error(NotALine, {"value": thing}, call, thing, thing, thing)
            self.assert_error(NotALine, {"value": thing}, lambda: next(steps(thing, PLAN, ())))
            self.assert_error(NotALine, {"value": thing}, lambda: next(steps(thing, thing, thing)))

    def test_plans(self):
        for thing, index in WRONG_PLANS:
            for call in (route, shortest):
                self.assert_error(InvalidPlan, {"index": index}, call, LINE, thing, GOAL)
                self.assert_error(InvalidPlan, {"index": index}, call, LINE, thing, None)
                self.assert_error(InvalidPlan, {"index": index}, call, LINE, PLAN, thing)
            self.assert_error(InvalidPlan, {"index": index}, follow, LINE, thing, ())
            self.assert_error(InvalidPlan, {"index": index}, follow, LINE, thing, None)
            self.assert_error(InvalidPlan, {"index": index}, lambda: next(steps(LINE, thing, ())))
            self.assert_error(InvalidPlan, {"index": index}, lambda: next(steps(LINE, thing, None)))
        self.assertEqual(follow(LINE, PLAN, route(LINE, PLAN, GOAL)), GOAL)

    def test_exchanges(self):
        for thing, index in WRONG_EXCHANGES:
            self.assert_error(InvalidExchange, {"index": index}, follow, LINE, PLAN, thing)
            self.assert_error(InvalidExchange, {"index": index}, lambda: next(steps(LINE, PLAN, thing)))
            self.assertEqual(follow(LINE, PLAN, (("ann", 2),)), GOAL)

    def test_one_wrong_exchange_among_many(self):
        rng = random.Random(61)
        line, plan = crowded_line(rng, 5, 24, 9, 1)
        exchanges = some_exchanges(rng, line, plan, 30)
        plans = [plan] + walked(line, plan, exchanges)
        for at in range(30):
            name = exchanges[at][0]
            for seat in (dict(plans[at])[name], 0, 6, True, None):
                wrong = exchanges[:at] + ((name, seat),) + exchanges[at + 1:]
                self.assert_error(InvalidExchange, {"index": at}, follow, line, plan, wrong)
                self.assert_error(InvalidExchange, {"index": at}, lambda: next(steps(line, plan, wrong)))
        self.assertEqual(follow(line, plan, exchanges), plans[-1])

    def test_order(self):
        self.assert_error(NotALine, {"value": None}, route, None, None, None)
        self.assert_error(InvalidPlan, {"index": 0}, route, LINE, (), None)
        self.assert_error(InvalidPlan, {"index": None}, route, LINE, PLAN, None)
        self.assert_error(InvalidPlan, {"index": 2}, follow, LINE, PLAN[:2], None)
        self.assert_error(InvalidExchange, {"index": None}, follow, LINE, PLAN, None)

    def test_overfull_lines_have_no_plans(self):
        line = Line.read("1 a:0-3 b:2-5")
        for call in (route, shortest, follow):
            self.assert_error(InvalidPlan, {"index": 1}, call, line, (("a", 1), ("b", 1)), ())

    def test_true_behind_1(self):
        wrong = (("ann", True), ("bob", 2), ("carl", 1))
        for _ in range(2):
            self.assertEqual(follow(LINE, GOAL, (("ann", 1),)), PLAN)
            self.assert_error(InvalidExchange, {"index": 0}, follow, LINE, GOAL, (("ann", True),))
            self.assert_error(InvalidExchange, {"index": 1}, follow, LINE, PLAN, (("ann", 2), ("ann", True)))
            for call in (route, shortest):
                call(LINE, PLAN, GOAL)
                call(LINE, GOAL, PLAN)
                self.assert_error(InvalidPlan, {"index": 0}, call, LINE, wrong, GOAL)
                self.assert_error(InvalidPlan, {"index": 0}, call, LINE, GOAL, wrong)


if __name__ == "__main__":
    unittest.main()
