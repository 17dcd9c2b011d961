"""plans.py: is_plan, and the plans with their numbers."""

import itertools
import random
import unittest

from seatchains.errors import InvalidNumber, InvalidPlan
from seatchains.lines import Line
from seatchains.plans import all_plans, count, is_plan, least_plan, number_of, overfull, plan_at
from tests.reference import (crowded_line, every_plan, far_places, is_right, least_overfull, plans_in_order,
                             small_lines, some_lines, stretched)
from tests.samples import FAR, NAMES_24, NOT_TEXTS, TRIPS_24, ErrorCase
from tests.wrong import GOAL, LINE, PLAN, WRONG_PLANS, WRONG_SEATS

# Its plans are too many to go through them.
LARGE = Line(20, TRIPS_24)


class IsPlanTest(ErrorCase):

    def test_plans(self):
        for line, plan in ((LINE, PLAN), (LINE, GOAL), (Line(3), ()), (Line(20, (("a", 0, 1),)), (("a", 20),)),
                           (Line(1, (("a", 0, 1), ("b", 1, 2))), (("a", 1), ("b", 1)))):
            self.assertIs(is_plan(line, plan), True)
            self.assertIs(is_plan(line=line, thing=plan), True)

    def test_what_is_no_plan(self):
        for thing, _ in WRONG_PLANS:
            self.assertIs(is_plan(LINE, thing), False)
        self.assertIs(is_plan(LINE, PLAN), True)

    def test_without_trips(self):
        for thing in [*NOT_TEXTS, ((),), (None,), PLAN, [], {}, "", None]:
            if thing != ():
                self.assertIs(is_plan(Line(2), thing), False)
        self.assertIs(is_plan(Line(2), ()), True)

    def test_plans_with_one_or_two_other_elements(self):
        others = [("ann", 1), ("ann", 2), ("ann", 3), ("bob", 1), ("bob", 2), ("carl", 1), ("carl", 2), ("carl", 0),
                  ("carl", True), ["carl", 1], None, "carl", 1, ("carl",), ("carl", 1, 1), {"carl": 1}, ({}, 1),
                  (1, "carl")]
        plans = [repr(plan) for plan in every_plan(LINE)]
        for first, second in itertools.product(range(3), repeat=2):
            for one, two in itertools.product(others, repeat=2):
                changed = list(PLAN)
                changed[first], changed[second] = one, two
                self.assertIs(is_plan(LINE, tuple(changed)), repr(tuple(changed)) in plans)
                self.assertIs(is_plan(LINE, changed), False)

    def test_all_seats_for_small_lines(self):
        for line in small_lines(2, 3):
            names = [name for name, _, _ in line.trips]
            for seats in itertools.product(range(4), repeat=len(names)):
                plan = tuple(zip(names, seats))
                right = all(1 <= seat <= 2 for seat in seats) and is_right(line, plan)
                self.assertIs(is_plan(line, plan), right)

    def test_stretches_that_touch_do_not_meet(self):
        self.assertIs(is_plan(Line(1, (("a", 3, 5), ("b", 5, 6), ("c", 0, 3))), (("a", 1), ("b", 1), ("c", 1))), True)
        self.assertIs(is_plan(Line(1, (("a", 3, 5), ("b", 4, 6))), (("a", 1), ("b", 1))), False)
        self.assertIs(is_plan(Line(1, (("a", 3, 5), ("b", 0, 4))), (("a", 1), ("b", 1))), False)
        self.assertIs(is_plan(Line(1, (("a", 0, FAR), ("b", FAR - 1, FAR))), (("a", 1), ("b", 1))), False)

    def test_large_lines(self):
        rng = random.Random(5)
        for _ in range(30):
            line, plan = crowded_line(rng, rng.randint(2, 20), 24, 9, 2)
            self.assertIs(is_plan(line, plan), True)
            for at in range(24):
                other = plan[:at] + ((plan[at][0], rng.randint(1, line.capacity)),) + plan[at + 1:]
                self.assertIs(is_plan(line, other), is_right(line, other))


class OverfullTest(ErrorCase):

    def test_least_overfull_stretch(self):
        for text, station in (("1", None), ("1 a:0-3", None), ("1 a:0-3 b:3-5", None), ("1 a:0-3 b:2-5", 2),
                              ("1 a:2-5 b:0-3", 2), ("1 a:5-9 b:5-6 c:1-4 d:3-4", 3), ("2 a:0-9 b:3-4 c:3-4", 3),
                              ("2 a:0-9 b:3-4 c:4-5", None), ("2 a:0-9 b:3-8 c:7-8", 7), ("1 a:0-1 b:0-1", 0)):
            self.assert_same(overfull(Line.read(text)), station)
            self.assert_same(overfull(line=Line.read(text)), station)

    def test_far_apart(self):
        self.assert_same(overfull(Line(1, (("a", 0, FAR), ("b", FAR - 1, FAR)))), FAR - 1)
        self.assert_same(overfull(Line(1, (("a", 10 ** 69, FAR), ("b", 0, 10 ** 69 + 1)))), 10 ** 69)
        self.assert_same(overfull(Line(2, (("a", 10 ** 69, FAR), ("b", 0, 10 ** 69 + 1)))), None)

    def test_many_trips(self):
        for seats in range(1, 21):
            self.assert_same(overfull(Line(seats, tuple((name, 5, 6) for name in NAMES_24))), 5)
            self.assert_same(overfull(Line(seats, tuple((name, 5, 6) for name in NAMES_24[:seats]))), None)
            nested = Line(seats, tuple((name, at, 50 - at) for at, name in enumerate(NAMES_24)))
            self.assert_same(overfull(nested), seats)

    def test_small_lines(self):
        for seats in (1, 2):
            for line in small_lines(seats, 3, 4):
                self.assert_same(overfull(line), least_overfull(line))
        for line in some_lines(11, 400, 6, 24, 30):
            self.assert_same(overfull(line), least_overfull(line))


class NumbersTest(ErrorCase):

    def check(self, line):
        """All numbers and plans of a line with few plans are as the document defines them."""
        plans = plans_in_order(line)
        self.assert_same(count(line), len(plans))
        self.assertEqual(least_plan(line), plans[0] if plans else None)
        self.assertEqual(list(all_plans(line)), plans)
        self.assertEqual(count(line) == 0, overfull(line) is not None)
        for number, plan in enumerate(plans):
            self.assertEqual(plan_at(line, number), plan)
            self.assert_same(number_of(line, plan), number)
        for number in (-1, len(plans), len(plans) + 1, FAR, -FAR, True, False):
            self.assert_error(InvalidNumber, {"number": number}, plan_at, line, number)

    def test_all_small_lines(self):
        for seats in (1, 2, 3):
            for line in small_lines(seats, 3):
                self.check(line)

    def test_some_more_lines(self):
        for line in some_lines(3, 150, 4, 5, 8):
            self.check(line)

    def test_names_against_the_order_of_the_line(self):
        for text in ("3 a:4-6 b:2-5 c:0-3", "2 a:9-10 b:0-1 c:5-6", "3 a:2-5 b:2-3 c:0-9 d:2-4", "4 a:5-6 b:5-7 c:4-6",
                     "3 a:10-12 b:9-11 c:100-101", "2 a:1-2 aa:0-9 b:5-6"):
            self.check(Line.read(text))

    def test_by_hand(self):
        line = Line.read("3 a:4-6 b:2-5")
        self.assertEqual(list(all_plans(line)), [(("a", 2), ("b", 1)), (("a", 3), ("b", 1)), (("a", 1), ("b", 2)),
                                                 (("a", 3), ("b", 2)), (("a", 1), ("b", 3)), (("a", 2), ("b", 3))])
        self.assertEqual([plan_at(line=line, number=4), number_of(line=line, plan=(("a", 1), ("b", 3)))],
                         [(("a", 1), ("b", 3)), 4])

    def test_without_trips(self):
        for seats in (1, 2, 20):
            line = Line(seats)
            self.assertEqual([overfull(line), count(line), least_plan(line), plan_at(line, 0), number_of(line, ())],
                             [None, 1, (), (), 0])
            self.assertEqual(list(all_plans(line)), [()])
            self.assert_error(InvalidNumber, {"number": 1}, plan_at, line, 1)
            self.assert_error(InvalidPlan, {"index": 0}, number_of, line, (("ann", 1),))
            self.assert_error(InvalidPlan, {"index": None}, number_of, line, [])

    def test_overfull_lines(self):
        for text in ("1 ann:0-3 bob:2-5", "2 a:0-9 b:0-9 c:0-9", "1 a:0-1 b:0-9 c:8-9", "1 a:0-9 b:0-9 c:0-9 d:0-9"):
            line = Line.read(text)
            self.assert_same(count(line), 0)
            self.assertIs(least_plan(line), None)
            self.assertEqual(list(all_plans(line)), [])
            for number in (0, 1, -1, True, False, FAR):
                self.assert_error(InvalidNumber, {"number": number}, plan_at, line, number)
        self.assert_same(count(Line(1, tuple((name, 0, 1) for name in NAMES_24))), 0)
        self.assert_error(InvalidPlan, {"index": 1}, number_of, Line.read("1 a:0-3 b:2-5"), (("a", 1), ("b", 1)))

    def test_seats_are_integers(self):
        for plan in (least_plan(LINE), plan_at(LINE, 1), *all_plans(LINE)):
            self.assertEqual([type(plan), *[type(pair) for pair in plan]], [tuple] * 4)
            self.assertEqual([(type(name), type(seat)) for name, seat in plan], [(str, int)] * 3)


class LargeTest(ErrorCase):

    def check(self, line, total, seed=0):
        """Numbers at both ends and some between them lead to plans and back, in ascending order of their digits."""
        self.assert_same(count(line), total)
        rng = random.Random(seed)
        numbers = sorted({0, total - 1, *[rng.randrange(total) for _ in range(40)]})
        plans = [plan_at(line, number) for number in numbers]
        for number, plan in zip(numbers, plans):
            self.assertIs(is_plan(line, plan), True)
            self.assert_same(number_of(line, plan), number)
        self.assertEqual((plans[0], len(set(plans))), (least_plan(line), len(numbers)))
        for number in (-1, total, total + 1, -total, FAR, -FAR):
            self.assert_error(InvalidNumber, {"number": number}, plan_at, line, number)

    def test_24_trips_with_20_seats(self):
        self.check(LARGE, 20 * 19 ** 23)
        self.check(Line(20, tuple((name, 2 * at, 2 * at + 1) for at, name in enumerate(NAMES_24))), 20 ** 24)
        total = 1
        for seats in range(20, 0, -1):
            total *= seats
        self.check(Line(20, tuple((name, 5, 6) for name in NAMES_24[:20])), total)
        self.check(Line(20, tuple((name, 5, 6) if at < 20 else (name, 6, 7) for at, name in enumerate(NAMES_24))),
                   total * 20 * 19 * 18 * 17)

    def test_least_and_greatest_plan_of_many(self):
        self.assertEqual(least_plan(LARGE), tuple((name, at % 2 + 1) for at, name in enumerate(NAMES_24)))
        greatest = tuple((name, 20 - at % 2) for at, name in enumerate(NAMES_24))
        self.assertEqual(plan_at(LARGE, 20 * 19 ** 23 - 1), greatest)
        # The digit of the last trip weighs least, that of the first one most: behind it 23 trips have 19 seats each.
        self.assert_same(number_of(LARGE, least_plan(LARGE)[:23] + (("x", 3),)), 1)
        self.assert_same(number_of(LARGE, (("a", 2), ("b", 1), ("c", 2)) + tuple(
            (name, at % 2 + 1) for at, name in enumerate(NAMES_24[3:]))), 19 ** 23)

    def test_full_lines(self):
        rng = random.Random(8)
        for _ in range(25):
            line, plan = crowded_line(rng, rng.randint(1, 20), 24, 12, 1)
            self.check(line, count(line))
            self.assertEqual(plan_at(line, number_of(line, plan)), plan)
            self.assertIs(overfull(line), None)

    def test_far_apart(self):
        rng = random.Random(9)
        for line in some_lines(4, 60, 4, 4, 6):
            far = stretched(line, far_places(rng, 7))
            self.assertEqual([count(far), least_plan(far), list(all_plans(far))],
                             [count(line), least_plan(line), list(all_plans(line))])
            for number, plan in enumerate(all_plans(line)):
                self.assertEqual([plan_at(far, number), number_of(far, plan)], [plan, number])
        self.check(Line(20, tuple((name, at * 10 ** 68, FAR) for at, name in enumerate(NAMES_24[:17]))),
                   20 * 19 * 18 * 17 * 16 * 15 * 14 * 13 * 12 * 11 * 10 * 9 * 8 * 7 * 6 * 5 * 4)


class AllPlansTest(ErrorCase):

    def test_the_first_ones_of_very_many(self):
        walk = all_plans(LARGE)
        self.assertEqual([next(walk) for _ in range(30)], [plan_at(LARGE, number) for number in range(30)])
        self.assertEqual(next(all_plans(line=LARGE)), least_plan(LARGE))

    def test_it_is_a_generator(self):
        walk = all_plans(LINE)
        self.assertIs(iter(walk), walk)
        self.assertEqual([next(walk), next(walk), next(walk, None), next(walk, None)], [PLAN, GOAL, None, None])

    def test_two_walks_at_the_same_time(self):
        line = Line.read("3 a:4-6 b:2-5 c:0-9")
        plans = plans_in_order(line)
        self.assertEqual(list(zip(all_plans(line), all_plans(line))), list(zip(plans, plans)))
        first, second, third = all_plans(line), all_plans(line), all_plans(LINE)
        self.assertEqual([next(first), next(first), next(second), next(third), next(first)],
                         [plans[0], plans[1], plans[0], PLAN, plans[2]])
        self.assertEqual([list(second), list(third), list(first)], [plans[1:], [GOAL], plans[3:]])

    def test_a_walk_within_a_walk(self):
        line = Line.read("3 a:4-6 b:2-5")
        pairs = [(one, two) for one in all_plans(line) for two in all_plans(line)]
        self.assertEqual(pairs, list(itertools.product(plans_in_order(line), repeat=2)))


class WrongTest(ErrorCase):

    def test_numbers(self):
        for number in [*WRONG_SEATS, 2, 3]:
            self.assert_error(InvalidNumber, {"number": number}, plan_at, LINE, number)
            self.assert_error(InvalidNumber, {"number": number}, plan_at, line=LINE, number=number)

    def test_true_and_false_behind_1_and_0(self):
        for _ in range(2):
            self.assertEqual([plan_at(LINE, 0), plan_at(LINE, 1)], [PLAN, GOAL])
            self.assert_error(InvalidNumber, {"number": True}, plan_at, LINE, True)
            self.assert_error(InvalidNumber, {"number": False}, plan_at, LINE, False)
            self.assertIs(is_plan(LINE, PLAN), True)
            self.assertIs(is_plan(LINE, (("ann", True), ("bob", 2), ("carl", True))), False)
            self.assert_same(number_of(LINE, PLAN), 0)
            self.assert_error(InvalidPlan, {"index": 0}, number_of, LINE, (("ann", True), ("bob", 2), ("carl", 1)))
            self.assert_error(InvalidPlan, {"index": 2}, number_of, LINE, (("ann", 1), ("bob", 2), ("carl", True)))

    def test_plans(self):
        self.assert_errors(InvalidPlan, "index", WRONG_PLANS, number_of, LINE)
        self.assert_error(InvalidPlan, {"index": 1}, number_of, plan=(("ann", 1), ("bob", 1)), line=LINE)
        self.assert_same(number_of(LINE, GOAL), 1)

    def test_index_in_lines_in_another_order(self):
        line = Line.read("2 a:4-6 b:2-5 c:0-3")
        for plan, index in (((("a", 1), ("b", 1), ("c", 2)), 1), ((("a", 1), ("b", 2), ("c", 2)), 2),
                            ((("a", 2), ("b", 2), ("c", 2)), 1), ((("c", 1), ("b", 2), ("a", 1)), 0)):
            self.assert_error(InvalidPlan, {"index": index}, number_of, line, plan)
        self.assert_same(number_of(line, (("a", 1), ("b", 2), ("c", 1))), 0)

    def test_index_in_large_lines(self):
        plan = least_plan(LARGE)
        for at in range(24):
            for many in (at, 24, 25):
                more = (plan + (("y", 1),))[:many]
                wrong = more[:at] + ((NAMES_24[at], 21),) + more[at + 1:]
                self.assert_error(InvalidPlan, {"index": at}, number_of, LARGE, wrong)
            if at > 0:
                met = plan[:at] + ((NAMES_24[at], plan[at - 1][1]),) + plan[at + 1:]
                self.assert_error(InvalidPlan, {"index": at}, number_of, LARGE, met)
            self.assert_error(InvalidPlan, {"index": at}, number_of, LARGE, plan[:at])
        self.assert_error(InvalidPlan, {"index": 24}, number_of, LARGE, plan + (("y", 1),))


if __name__ == "__main__":
    unittest.main()
