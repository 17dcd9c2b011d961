"""certificates.py: the claims are the true ones, and the checker accepts them with their certificates."""

import random
import unittest

from seatchains.booking import full_stretch
from seatchains.certificates import certify_changes, certify_fixed, certify_number, certify_plan, certify_route
from seatchains.changing import blocks, itinerary
from seatchains.chains import route
from seatchains.checker import accepts
from seatchains.errors import InvalidFixed, InvalidPlan, InvalidStation, NotALine
from seatchains.fixing import fixed_obstacle, fixed_plan
from seatchains.lines import Line
from seatchains.plans import count, least_plan, number_of, overfull, plan_at
from tests.claims import is_true
from tests.reference import (crowded_line, every_fixed, every_plan, far_places, is_obstacle, least_overfull,
                             small_lines, some_lines, stretched)
from tests.samples import DEEP, FAR, NAMES_24, NOT_INTEGERS, TRIPS_24, ErrorCase
from tests.wrong import GOAL, LINE, NOT_LINES, PLAN, WRONG_FIXED, WRONG_PLANS

LARGE = Line(20, TRIPS_24)


class CertificateCase(ErrorCase):

    def check(self, call, line, *values):
        """The claim is about these values, and accepted; return the claim and the certificate."""
        found = call(line, *values)
        self.assertEqual([type(found), len(found), type(found[0])], [tuple, 2, tuple])
        claim, certificate = found
        self.assertEqual(claim[1:3 + len(values)], (line.capacity, line.trips, *values))
        self.assertIs(accepts(claim, certificate), True, found)
        self.assertEqual(call(line, *values), found)
        return found

    def check_near(self, call, line, *values):
        """The same, and the claim is true by a search through all plans."""
        claim, certificate = self.check(call, line, *values)
        self.assertTrue(is_true(claim), claim)
        return claim, certificate

    def check_plan(self, line):
        claim, certificate = self.check(certify_plan, line)
        station = overfull(line)
        if station is None:
            self.assertEqual([claim, certificate], [("plan", line.capacity, line.trips, least_plan(line)), None])
        else:
            self.assertEqual([claim, certificate], [("no plan", line.capacity, line.trips), station])

    def check_route(self, line, plan, goal):
        claim, certificate = self.check(certify_route, line, plan, goal)
        self.assertEqual([claim, certificate], [("route", line.capacity, line.trips, plan, goal),
                                                route(line, plan, goal)])

    def check_fixed(self, line, fixed):
        claim, certificate = self.check(certify_fixed, line, fixed)
        plan = fixed_plan(line, fixed)
        self.assertEqual(claim, ("not fixed" if plan is None else "fixed", line.capacity, line.trips, fixed))
        self.assertEqual(certificate, fixed_obstacle(line, fixed) if plan is None else plan)
        return claim[0]

    def check_number(self, line, plan, number):
        claim, certificate = self.check(certify_number, line, plan)
        self.assertEqual([claim, certificate], [("number", line.capacity, line.trips, plan, number), None])
        self.assertEqual(type(claim[4]), int)

    def check_changes(self, line, plan, start, end):
        claim, certificate = self.check(certify_changes, line, plan, start, end)
        triples = itinerary(line, plan, start, end)
        if triples is None:
            self.assertEqual([claim[0], len(claim), certificate], ["no seat", 6, full_stretch(line, start, end)])
        else:
            self.assertEqual([claim[0], len(claim), claim[6]], ["changes", 7, len(triples) - 1])
            self.assertEqual(certificate, (triples, blocks(line, plan, start, end)))
        return claim[0]


class CertificatesTest(CertificateCase):

    def test_by_position_and_by_name(self):
        self.assertEqual(certify_plan(line=LINE), certify_plan(LINE))
        self.assertEqual(certify_route(goal=GOAL, plan=PLAN, line=LINE), certify_route(LINE, PLAN, GOAL))
        self.assertEqual(certify_fixed(fixed=(), line=LINE), certify_fixed(LINE, ()))
        self.assertEqual(certify_number(plan=GOAL, line=LINE), certify_number(LINE, GOAL))
        self.assertEqual(certify_changes(end=9, start=4, plan=PLAN, line=LINE), certify_changes(LINE, PLAN, 4, 9))

    def test_small_lines(self):
        rng = random.Random(281)
        for seats in (1, 2, 3):
            for line in rng.sample(list(small_lines(seats, 3)), 80):
                self.check_near(certify_plan, line)
                self.check_plan(line)
                for fixed in every_fixed(line):
                    self.check_near(certify_fixed, line, fixed)
                    self.check_fixed(line, fixed)
                for plan in every_plan(line):
                    self.check_near(certify_number, line, plan)
                    self.check_near(certify_route, line, plan, rng.choice(every_plan(line)))
                    start = rng.randrange(4)
                    self.check_near(certify_changes, line, plan, start, rng.randint(start + 1, 5))

    def test_some_more_lines(self):
        rng = random.Random(282)
        words = []
        for line in some_lines(283, 150, 4, 6, 9):
            self.check_plan(line)
            every = list(every_fixed(line))
            words += [self.check_fixed(line, fixed) for fixed in rng.sample(every, min(9, len(every)))]
            total = count(line)
            for _ in range(6 if total else 0):
                numbers = [rng.randrange(total) for _ in range(2)]
                plan, goal = [plan_at(line, number) for number in numbers]
                self.check_number(line, plan, numbers[0])
                self.check_route(line, plan, goal)
                start = rng.randrange(10)
                words.append(self.check_changes(line, plan, start, rng.randint(start + 1, 12)))
        for word in ("fixed", "not fixed", "changes", "no seat"):
            self.assertGreater(words.count(word), 30)

    def test_far_apart(self):
        rng = random.Random(284)
        for line in some_lines(285, 80, 3, 5, 8):
            places = far_places(rng, 9)
            far = stretched(line, places)
            claim, certificate = self.check(certify_plan, far)
            if claim[0] == "no plan":
                self.assertEqual(certificate, places[least_overfull(line)])
            every = list(every_fixed(line))
            for fixed in rng.sample(every, min(9, len(every))):
                claim, certificate = self.check(certify_fixed, far, fixed)
                near = certify_fixed(line, fixed)
                self.assertEqual(claim[0], near[0][0])
                if claim[0] == "not fixed":
                    word, thing = certificate
                    back = tuple(map(places.index, thing)) if word == "cut" else places.index(thing)
                    self.assertTrue(is_obstacle(line, fixed, (word, back)))
            for plan in every_plan(line)[:5]:
                self.check_number(far, plan, number_of(line, plan))
                self.check_route(far, plan, every_plan(line)[-1])
                start, end = sorted(rng.sample(range(9), 2))
                self.check_changes(far, plan, places[start], places[end])
                self.assertEqual(certify_changes(far, plan, places[start], places[end])[0][6:],
                                 certify_changes(line, plan, start, end)[0][6:])

    def test_24_trips_with_20_seats(self):
        rng = random.Random(286)
        lines = [LARGE, *[crowded_line(rng, seats, 24, 9, gap)[0] for seats in (2, 5, 19, 20) for gap in (0, 2)]]
        for line in lines:
            self.check_plan(line)
            total = count(line)
            for _ in range(4):
                numbers = [rng.randrange(total) for _ in range(2)]
                plan, goal = [plan_at(line, number) for number in numbers]
                self.check_number(line, plan, numbers[0])
                self.check_route(line, plan, goal)
                self.check_changes(line, plan, 0, FAR)
                self.check_changes(line, plan, 3, 25)
                many = rng.randint(0, line.capacity)
                names = sorted(rng.sample(NAMES_24 if line == LARGE else line.order, many))
                self.check_fixed(line, tuple(zip(names, rng.sample(range(1, line.capacity + 1), many))))
            self.check_number(line, plan_at(line, total - 1), total - 1)
        self.assertEqual(certify_plan(Line(1, TRIPS_24)), (("no plan", 1, TRIPS_24), 1))

    def test_many_changes(self):
        line = Line(2, tuple((name, at, at + 1) for at, name in enumerate(NAMES_24)))
        plan = tuple((name, 1 + at % 2) for at, name in enumerate(NAMES_24))
        claim, certificate = self.check(certify_changes, line, plan, 0, FAR)
        self.assertEqual([claim[0], claim[6], len(certificate[0]), len(certificate[1])], ["changes", 23, 24, 23])

    def test_without_trips(self):
        for seats in (1, 2, 20):
            line = Line(seats)
            self.check_plan(line)
            self.check_route(line, (), ())
            self.assertEqual(self.check_fixed(line, ()), "fixed")
            self.check_number(line, (), 0)
            self.assertEqual(self.check_changes(line, (), 0, FAR), "changes")

    def test_overfull_lines(self):
        for text, station in (("1 a:0-3 b:2-5", 2), ("2 a:0-9 b:3-8 c:7-8 d:1-2", 7), ("1 a:5-9 b:5-6 c:1-4 d:3-4", 3)):
            line = Line.read(text)
            self.assertEqual(certify_plan(line), (("no plan", line.capacity, line.trips), station))
            for fixed in ((), (("a", 1),)):
                self.assertEqual(certify_fixed(line, fixed),
                                 (("not fixed", line.capacity, line.trips, fixed), ("overfull", station)))

    def test_no_way(self):
        self.assertEqual(certify_changes(LINE, PLAN, 0, 9), (("no seat", 2, LINE.trips, PLAN, 0, 9), 2))
        self.assertEqual(certify_changes(LINE, PLAN, 3, 9), (("no seat", 2, LINE.trips, PLAN, 3, 9), 3))


class ErrorsTest(ErrorCase):

    def check_valid(self):
        for claim, certificate in (certify_plan(LINE), certify_route(LINE, PLAN, GOAL), certify_fixed(LINE, PLAN[:2]),
                                   certify_number(LINE, GOAL), certify_changes(LINE, PLAN, 0, 9)):
            self.assertIs(accepts(claim, certificate), True)

    def test_lines(self):
        for thing in NOT_LINES:
            self.assert_error(NotALine, {"value": thing}, certify_plan, thing)
            self.assert_error(NotALine, {"value": thing}, certify_route, thing, PLAN, thing)
            self.assert_error(NotALine, {"value": thing}, certify_fixed, thing, thing)
            self.assert_error(NotALine, {"value": thing}, certify_number, thing, thing)
            self.assert_error(NotALine, {"value": thing}, certify_changes, thing, thing, thing, thing)
        self.check_valid()

    def test_plans(self):
        for thing, index in WRONG_PLANS:
            self.assert_error(InvalidPlan, {"index": index}, certify_route, LINE, thing, None)
            self.assert_error(InvalidPlan, {"index": index}, certify_route, LINE, PLAN, thing)
            self.assert_error(InvalidPlan, {"index": index}, certify_number, LINE, thing)
            self.assert_error(InvalidPlan, {"index": index}, certify_changes, LINE, thing, None, None)
        self.check_valid()

    def test_fixed_seats(self):
        self.assert_errors(InvalidFixed, "index", WRONG_FIXED, certify_fixed, LINE)
        overfull_line = Line(1, LINE.trips)
        self.assert_error(InvalidFixed, {"index": 0}, certify_fixed, overfull_line, (("ann", 2),))
        self.check_valid()

    def test_stations(self):
        for thing in [*NOT_INTEGERS, *DEEP, -1, -FAR]:
            self.assert_error(InvalidStation, {"station": thing}, certify_changes, LINE, PLAN, thing, None)
            self.assert_error(InvalidStation, {"station": thing}, certify_changes, LINE, PLAN, 0, thing)
        for start, end in ((3, 3), (3, 2), (FAR, FAR), (0, True), (0, 0)):
            self.assert_error(InvalidStation, {"station": end}, certify_changes, LINE, PLAN, start, end)
        self.check_valid()

    def test_true_behind_1(self):
        wrong = (("ann", True), ("bob", 2), ("carl", 1))
        for _ in range(2):
            self.check_valid()
            self.assert_error(InvalidPlan, {"index": 0}, certify_number, LINE, wrong)
            self.assert_error(InvalidPlan, {"index": 0}, certify_route, LINE, PLAN, wrong)
            self.assert_error(InvalidFixed, {"index": 0}, certify_fixed, LINE, (("ann", True),))
            self.assert_error(InvalidPlan, {"index": 0}, certify_changes, LINE, wrong, 0, 9)


if __name__ == "__main__":
    unittest.main()
