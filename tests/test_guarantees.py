"""What the document guarantees of the whole program."""

import random
import unittest

from seatchains.booking import book, full_stretch
from seatchains.certificates import certify_changes, certify_fixed, certify_number, certify_plan, certify_route
from seatchains.chains import follow, is_shift, route, shortest
from seatchains.checker import accepts
from seatchains.desk import Desk
from seatchains.errors import Full, InvalidNumber
from seatchains.fixing import fixed_obstacle, fixed_plan
from seatchains.lines import Line
from seatchains.plans import count, is_plan, least_plan, number_of, overfull, plan_at
from seatchains.shifting import free_seats, shifts
from tests.reference import (crowded_line, every_fixed, every_plan, far_places, least_overfull, load, some_lines,
                             stretched)
from tests.samples import NAMES_24, ErrorCase
from tests.test_desk import some_action


class GuaranteesTest(ErrorCase):

    def test_a_plan_exactly_if_no_stretch_is_overfull(self):
        for line in some_lines(301, 300, 4, 6, 9):
            there_is = least_overfull(line) is None
            self.assertEqual([least_plan(line) is not None, overfull(line) is None, count(line) > 0,
                              certify_plan(line)[0][0] == "plan"], [there_is] * 4)
            self.assertEqual(count(line), len(every_plan(line)))

    def test_each_number_has_a_plan_and_each_plan_its_number(self):
        for line in some_lines(302, 80, 4, 5, 9):
            total = count(line)
            found = [plan_at(line, number) for number in range(total)]
            self.assertEqual(sorted(found), sorted(every_plan(line)))
            self.assertEqual([number_of(line, plan) for plan in found], list(range(total)))
            for number in (-1, total):
                self.assert_error(InvalidNumber, {"number": number}, plan_at, line, number)

    def test_a_plan_that_keeps_fixed_seats_or_an_obstacle(self):
        for line in some_lines(303, 60, 3, 5, 8):
            plans = [set(plan) for plan in every_plan(line)]
            for fixed in every_fixed(line):
                there_is = any(set(fixed) <= plan for plan in plans)
                self.assertEqual([fixed_plan(line, fixed) is not None, fixed_obstacle(line, fixed) is None],
                                 [there_is] * 2)

    def test_routes_are_short(self):
        rng = random.Random(304)
        for line in some_lines(305, 150, 4, 6, 9):
            total = count(line)
            if total:
                plan, goal = [plan_at(line, rng.randrange(total)) for _ in range(2)]
                exchanges = route(line, plan, goal)
                self.assertEqual([follow(line, plan, exchanges), len(exchanges) <= len(line)], [goal, True])
                if total <= 500:
                    few = shortest(line, plan, goal)
                    self.assertLessEqual(len(few), len(exchanges))
                    found = shifts(line, plan, goal)
                    self.assertGreaterEqual(len(few) if found is None else len(found), len(few))

    def test_shifts_if_no_stretch_is_full(self):
        rng = random.Random(306)
        many = 0
        for line in some_lines(307, 400, 5, 6, 9):
            if count(line) <= 2000 and not any(load(line, start) >= line.capacity for _, start, _ in line.trips):
                many += 1
                plan, goal = [plan_at(line, rng.randrange(count(line))) for _ in range(2)]
                found = shifts(line, plan, goal)
                self.assertEqual(follow(line, plan, found), goal)
        self.assertGreater(many, 30)

    def test_an_exchange_is_a_shift_exactly_if_the_seat_is_free(self):
        rng = random.Random(308)
        for line in some_lines(309, 150, 6, 12, 20):
            total = count(line)
            if total:
                plan = plan_at(line, rng.randrange(total))
                for name, own in plan:
                    for seat in range(1, line.capacity + 1):
                        if seat != own:
                            self.assertEqual(is_shift(line, plan, name, seat), seat in free_seats(line, plan, name))

    def test_booking_succeeds_exactly_if_no_stretch_of_the_trip_is_full(self):
        rng = random.Random(310)
        outcomes = []
        for _ in range(60):
            desk = Desk(rng.randint(1, 5))
            for _ in range(30):
                start, end = sorted(rng.sample(range(16), 2))
                free = [name for name in NAMES_24 if name not in desk.line.order]
                if len(free) < 2:
                    break
                name = rng.choice(free)
                line, plan = desk.line, desk.plan
                full = [at for at in range(start, end) if load(line, at) >= line.capacity]
                self.assertEqual(full_stretch(line, start, end), full[0] if full else None)
                outcomes.append(bool(full))
                if full:
                    self.assert_error(Full, {"station": full[0]}, book, line, plan, name, start, end)
                    self.assert_error(Full, {"station": full[0]}, desk.book, name, start, end)
                    self.assertEqual([desk.line, desk.plan], [line, plan])
                else:
                    later, _, goal = book(line, plan, name, start, end)
                    self.assertEqual([desk.book(name, start, end), desk.line], [goal, later])
                    self.assertIs(is_plan(later, goal), True)
        self.assertEqual(set(outcomes), {True, False})

    def test_whatever_a_desk_does_can_be_certified(self):
        rng = random.Random(311)
        for _ in range(40):
            desk = Desk(rng.randint(1, 4))
            earlier = desk.plan
            for _ in range(15):
                line = desk.line
                try:
                    desk.do(some_action(rng, line))
                except (ValueError, LookupError):
                    pass
                rows = [certify_plan(desk.line), certify_number(desk.line, desk.plan),
                        certify_changes(desk.line, desk.plan, 0, 11), certify_fixed(desk.line, desk.plan[:1])]
                if desk.line == line:
                    rows.append(certify_route(line, earlier, desk.plan))
                earlier = desk.plan
                self.assertEqual([accepts(*row) for row in rows], [True] * len(rows))

    def test_far_apart(self):
        rng = random.Random(312)
        for seats in range(1, 21):
            line, plan = crowded_line(rng, seats, 24, 9, 1)
            last = max(end for _, _, end in line.trips)
            far = stretched(line, far_places(rng, last + 1))
            self.assertEqual([count(far), number_of(far, plan)], [count(line), number_of(line, plan)])
            self.assertEqual([least_plan(far), route(far, plan, least_plan(far))],
                             [least_plan(line), route(line, plan, least_plan(line))])
            desk, near = Desk(20), Desk(20)
            for each, source in ((desk, far), (near, line)):
                each.do_all(tuple(("book", *trip) for trip in source.walk()))
                each.resize(seats)
            self.assertEqual([desk.plan, desk.line], [near.plan, far])


class ChangesTest(ErrorCase):
    """No function changes what it is passed, and the same call returns the same."""

    def test_objects_stay_as_they_are(self):
        line = Line.read("2 ann:0-3 bob:2-5 carl:3-4")
        desk = Desk(2)
        desk.do_all((("book", "ann", 0, 3), ("book", "bob", 2, 5)))
        held, plan, history = desk.line, desk.plan, desk.history()
        texts = [repr(held), repr(plan), repr(history)]
        desk.do_all((("exchange", "ann", 2), ("seats", 3), ("cancel", "bob")))
        self.assertEqual([repr(held), repr(plan), repr(history)], texts)
        for _ in range(2):
            claim, certificate = certify_fixed(line, (("ann", 2),))
            before = repr((claim, certificate))
            self.assertIs(accepts(claim, certificate), True)
            self.assertEqual(repr((claim, certificate)), before)

    def test_lists_in_a_claim_are_not_changed(self):
        claim, certificate = ["plan", 1, [], []], [[], {}]
        for _ in range(2):
            self.assertIs(accepts(claim, certificate), False)
            self.assertIs(accepts(tuple(claim), certificate), False)
        self.assertEqual([claim, certificate], [["plan", 1, [], []], [[], {}]])


if __name__ == "__main__":
    unittest.main()
