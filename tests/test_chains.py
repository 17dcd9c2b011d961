"""chains.py: chain, exchanged and is_shift."""

import random
import unittest

from seatchains.chains import chain, exchanged, is_shift
from seatchains.errors import InvalidName, InvalidPlan, InvalidSeat, NotALine
from seatchains.lines import Line
from seatchains.plans import is_plan, least_plan
from tests.reference import (after, chain_of, crowded_line, every_exchange, every_plan, far_places, small_lines,
                             some_lines, stretched)
from tests.samples import FAR, NAMES_24, TRIPS_24, ErrorCase
from tests.wrong import GOAL, LINE, NOT_LINES, PLAN, WRONG_NAMES, WRONG_PLANS, WRONG_SEATS

CALLS = (chain, exchanged, is_shift)


class ChainsTest(ErrorCase):

    def check(self, line, plan, name, seat):
        """The three functions say what the document says, and the way back leads back."""
        members = chain_of(line, plan, name, seat)
        later = after(line, plan, name, seat)
        self.assertEqual(chain(line, plan, name, seat), tuple(sorted(members)))
        self.assertEqual(exchanged(line, plan, name, seat), later)
        self.assertIs(is_shift(line, plan, name, seat), members == {name})
        self.assertIs(is_plan(line, later), True)
        own = dict(plan)[name]
        self.assertEqual(chain(line, later, name, own), tuple(sorted(members)))
        self.assertEqual(exchanged(line, later, name, own), plan)

    def test_one_two_and_many_trips(self):
        line = Line.read("3 ann:0-3 bob:2-5 carl:3-4 dora:4-9")
        plan = (("ann", 1), ("bob", 2), ("carl", 1), ("dora", 1))
        for name, seat, members, later in (
                ("ann", 2, ("ann", "bob", "carl", "dora"), (("ann", 2), ("bob", 1), ("carl", 2), ("dora", 2))),
                ("dora", 2, ("ann", "bob", "carl", "dora"), (("ann", 2), ("bob", 1), ("carl", 2), ("dora", 2))),
                ("bob", 3, ("bob",), (("ann", 1), ("bob", 3), ("carl", 1), ("dora", 1))),
                ("carl", 3, ("carl",), (("ann", 1), ("bob", 2), ("carl", 3), ("dora", 1)))):
            self.assertEqual([chain(line, plan, name, seat), exchanged(line, plan, name, seat)], [members, later])
            self.assertIs(is_shift(line, plan, name, seat), len(members) == 1)
        two = (("ann", 1), ("bob", 3), ("carl", 2), ("dora", 1))
        self.assertEqual(chain(line, two, "carl", 3), ("bob", "carl"))
        self.assertEqual(exchanged(line, two, "carl", 3), (("ann", 1), ("bob", 2), ("carl", 3), ("dora", 1)))

    def test_by_position_and_by_name(self):
        for call, worth in ((chain, ("ann", "bob", "carl")), (exchanged, GOAL), (is_shift, False)):
            self.assert_same(call(LINE, PLAN, "ann", 2), worth)
            self.assert_same(call(seat=2, name="ann", plan=PLAN, line=LINE), worth)
            self.assert_same(call(LINE, PLAN, seat=2, name="ann"), worth)

    def test_trips_in_one_of_the_seats_that_do_not_belong_to_the_chain(self):
        line = Line.read("2 a:0-2 b:1-3 c:3-5 d:4-6")
        plan = (("a", 1), ("b", 2), ("c", 1), ("d", 2))
        self.assertEqual([chain(line, plan, "a", 2), chain(line, plan, "d", 1)], [("a", "b"), ("c", "d")])
        self.assertEqual(exchanged(line, plan, "b", 1), (("a", 2), ("b", 1), ("c", 1), ("d", 2)))

    def test_trips_in_a_third_seat_do_not_link(self):
        line = Line.read("3 a:0-2 b:1-5 c:4-6")
        self.assertEqual(chain(line, (("a", 1), ("b", 3), ("c", 1)), "a", 2), ("a",))
        self.assertEqual(chain(line, (("a", 1), ("b", 2), ("c", 1)), "a", 2), ("a", "b", "c"))
        self.assertEqual(chain(line, (("a", 1), ("b", 2), ("c", 3)), "a", 2), ("a", "b"))

    def test_all_small_lines(self):
        for seats in (2, 3):
            for line in small_lines(seats, 3):
                for plan in every_plan(line)[:8]:
                    for name, seat in every_exchange(line, plan):
                        self.check(line, plan, name, seat)

    def test_some_more_lines(self):
        for line in some_lines(21, 80, 4, 6, 8):
            for plan in every_plan(line)[::37]:
                for name, seat in every_exchange(line, plan):
                    self.check(line, plan, name, seat)

    def test_large_lines(self):
        rng = random.Random(22)
        for seats in (2, 3, 5, 12, 20):
            for _ in range(3):
                line, plan = crowded_line(rng, seats, 24, 9, 1)
                for name, seat in rng.sample(every_exchange(line, plan), 24):
                    self.check(line, plan, name, seat)
        line = Line(20, TRIPS_24)
        for name, seat in every_exchange(line, least_plan(line)):
            self.check(line, least_plan(line), name, seat)

    def test_a_chain_of_all_trips(self):
        line = Line(2, TRIPS_24)
        plan = least_plan(line)
        for at, name in enumerate(NAMES_24):
            self.assertEqual(chain(line, plan, name, 2 - at % 2), NAMES_24)
            self.assertEqual(exchanged(line, plan, name, 2 - at % 2), tuple((each, 3 - seat) for each, seat in plan))

    def test_far_apart(self):
        rng = random.Random(23)
        for line in some_lines(24, 40, 3, 4, 6):
            far = stretched(line, far_places(rng, 7))
            for plan in every_plan(line)[:20]:
                for name, seat in every_exchange(line, plan):
                    self.assertEqual(chain(far, plan, name, seat), tuple(sorted(chain_of(line, plan, name, seat))))
                    self.assertEqual(exchanged(far, plan, name, seat), after(line, plan, name, seat))


class ErrorsTest(ErrorCase):

    def check_valid(self):
        self.assertEqual([call(LINE, PLAN, "bob", 1) for call in CALLS], [("ann", "bob", "carl"), GOAL, False])

    def test_lines(self):
        for call in CALLS:
            for thing in NOT_LINES:
                self.assert_error(NotALine, {"value": thing}, call, thing, PLAN, "bob", 1)
                self.assert_error(NotALine, {"value": thing}, call, thing, thing, thing, thing)
        self.check_valid()

    def test_plans(self):
        for call in CALLS:
            for thing, index in WRONG_PLANS:
                self.assert_error(InvalidPlan, {"index": index}, call, LINE, thing, "bob", 1)
                self.assert_error(InvalidPlan, {"index": index}, call, LINE, thing, thing, thing)
        self.check_valid()

    def test_names(self):
        for call in CALLS:
            for thing in WRONG_NAMES:
                self.assert_error(InvalidName, {"name": thing}, call, LINE, PLAN, thing, 1)
                self.assert_error(InvalidName, {"name": thing}, call, LINE, PLAN, thing, thing)
                self.assert_error(InvalidName, {"name": thing}, call, Line(2), (), thing, 1)
            self.assert_error(InvalidName, {"name": "ann"}, call, Line(2), (), "ann", 0)
        self.check_valid()

    def test_seats(self):
        for call in CALLS:
            for thing in [*WRONG_SEATS, 0, 3, 4, 20, 2]:
                self.assert_error(InvalidSeat, {"seat": thing}, call, LINE, PLAN, "bob", thing)
                self.assert_error(InvalidSeat, {"seat": thing}, call, line=LINE, plan=PLAN, name="bob", seat=thing)
        self.check_valid()

    def test_the_trips_own_seat(self):
        for call in CALLS:
            for name, seat in PLAN:
                self.assert_error(InvalidSeat, {"seat": seat}, call, LINE, PLAN, name, seat)
            for name, seat in GOAL:
                self.assert_error(InvalidSeat, {"seat": seat}, call, LINE, GOAL, name, seat)
            line = Line(1, (("ann", 0, 3),))
            for seat in (0, 1, 2, FAR):
                self.assert_error(InvalidSeat, {"seat": seat}, call, line, (("ann", 1),), "ann", seat)

    def test_order(self):
        for call in CALLS:
            self.assert_error(NotALine, {"value": None}, call, None, None, None, None)
            self.assert_error(InvalidPlan, {"index": None}, call, LINE, None, None, None)
            self.assert_error(InvalidPlan, {"index": 1}, call, LINE, (("ann", 1), ("bob", 1)), "zoe", 9)
            self.assert_error(InvalidName, {"name": None}, call, LINE, PLAN, None, None)
            self.assert_error(InvalidName, {"name": "zoe"}, call, LINE, PLAN, "zoe", 9)
            self.assert_error(InvalidSeat, {"seat": None}, call, LINE, PLAN, "ann", None)

    def test_true_behind_1(self):
        for call in CALLS:
            for _ in range(2):
                call(LINE, PLAN, "bob", 1)
                self.assert_error(InvalidSeat, {"seat": True}, call, LINE, PLAN, "bob", True)
                self.assert_error(InvalidSeat, {"seat": True}, call, LINE, PLAN, "ann", True)
                self.assert_error(InvalidSeat, {"seat": False}, call, LINE, PLAN, "bob", False)
                wrong = (("ann", True), ("bob", 2), ("carl", 1))
                self.assert_error(InvalidPlan, {"index": 0}, call, LINE, wrong, "bob", 1)


if __name__ == "__main__":
    unittest.main()
