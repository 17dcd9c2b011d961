"""checker.py: accepts."""

import ast
import importlib
import itertools
import pathlib
import random
import subprocess
import sys
import unittest

from seatchains import errors
from seatchains.certificates import certify_changes, certify_fixed, certify_number, certify_plan, certify_route
from seatchains.checker import accepts
from seatchains.desk import Desk
from seatchains.lines import Line
from seatchains.plans import count, plan_at
from tests.claims import is_true, judged, otherwise_everywhere, places, replaced, subsets
from tests.reference import (every_exchange, every_fixed, every_plan, far_places, small_lines, some_lines, stops_of,
                             stretched)
from tests.samples import DEEP, FAR, INNER, NAMES_24, NOT_TEXTS, ErrorCase
from tests.wrong import GOAL, LINE, PLAN

TRIPS = LINE.trips
FULL = (("ann", 0, 3), ("bob", 2, 5))
APART = (("ann", 0, 3), ("bob", 3, 6))
ONE_TWO = (("ann", 1), ("bob", 2))

# True claims of each form with their certificates.
RIGHT = (
    (("plan", 2, TRIPS, PLAN), None),
    (("plan", 1, (), ()), None),
    (("no plan", 1, FULL), 2),
    (("no plan", 1, (("ann", 0, 9), ("bob", 2, 5), ("carl", 7, 9))), 8),
    (("route", 2, TRIPS, PLAN, GOAL), (("ann", 2),)),
    (("route", 2, TRIPS, PLAN, GOAL), (("bob", 1), ("ann", 1), ("carl", 2))),
    (("route", 2, TRIPS, PLAN, PLAN), ()),
    (("route", 3, APART, ONE_TWO, (("ann", 2), ("bob", 3))), (("bob", 3), ("ann", 2))),
    (("route", 5, (), (), ()), ()),
    (("fixed", 2, TRIPS, (("bob", 1),)), GOAL),
    (("fixed", 2, TRIPS, ()), PLAN),
    (("fixed", 3, TRIPS, (("ann", 3), ("bob", 1))), (("ann", 3), ("bob", 1), ("carl", 2))),
    (("fixed", 1, (), ()), ()),
    (("not fixed", 2, (("ann", 0, 1), ("bob", 1, 2), ("carl", 0, 3)), ONE_TWO), ("cut", (0, 3))),
    (("not fixed", 2, (("ann", 0, 1), ("bob", 1, 2), ("carl", 0, 3)), ONE_TWO), ("cut", (0, 2, 3))),
    (("not fixed", 1, FULL, (("bob", 1),)), ("overfull", 2)),
    (("not fixed", 1, (("ann", 0, 9), ("bob", 2, 5)), ()), ("overfull", 4)),
    (("number", 2, TRIPS, PLAN, 0), None),
    (("number", 2, TRIPS, GOAL, 1), None),
    (("number", 3, APART, (("ann", 2), ("bob", 3)), 5), None),
    (("number", 20, (), (), 0), None),
    (("changes", 2, APART, ONE_TWO, 1, 9, 1), (((2, 1, 3), (1, 3, 9)), ((1, 4),))),
    (("changes", 2, APART, ONE_TWO, 3, 9, 0), (((1, 3, 9),), ())),
    (("changes", 3, APART, ONE_TWO, 1, 9, 0), (((3, 1, 9),), ())),
    (("changes", 2, (("ann", 0, 2), ("bob", 2, 4), ("carl", 4, 6)), (("ann", 1), ("bob", 2), ("carl", 1)), 0, 6, 2),
     (((2, 0, 2), (1, 2, 4), (2, 4, 6)), ((0, 3), (2, 5)))),
    (("changes", 2, (("ann", 0, 2), ("bob", 2, 5), ("carl", 6, 7)), (("ann", 1), ("bob", 2), ("carl", 1)), 0, 9, 2),
     (((2, 0, 2), (1, 2, 6), (2, 6, 9)), ((1, 3), (4, 7)))),
    (("changes", 1, (), (), 0, FAR, 0), (((1, 0, FAR),), ())),
    (("no seat", 2, TRIPS, PLAN, 0, 9), 2),
    (("no seat", 2, TRIPS, PLAN, 3, 4), 3),
)


class Hostile:
    """A value of which nothing can be asked."""

    def fail(self, *args):
        raise RuntimeError("do not touch")

    __eq__ = __ne__ = __lt__ = __gt__ = __le__ = __ge__ = __len__ = __iter__ = __bool__ = __getitem__ = fail
    __contains__ = __add__ = __radd__ = __sub__ = __index__ = __int__ = __call__ = fail
    __hash__ = None


class CheckerCase(ErrorCase):

    def check(self, claim, certificate, worth):
        self.assertIs(accepts(claim, certificate), worth, (claim, certificate))


class FormsTest(CheckerCase):

    def test_by_position_and_by_name(self):
        self.assertIs(accepts(certificate=None, claim=RIGHT[0][0]), True)
        self.assertIs(accepts(RIGHT[0][0], certificate=1), False)

    def test_true_claims(self):
        for claim, certificate in RIGHT:
            self.check(claim, certificate, True)
            self.assertIs(judged(claim, certificate), True)
            if FAR not in claim:
                self.assertIs(is_true(claim), True)

    def test_certificates_of_other_claims(self):
        for claim, _ in RIGHT:
            for _, certificate in RIGHT:
                self.check(claim, certificate, judged(claim, certificate))

    def test_parts_of_other_claims(self):
        for one, certificate in RIGHT:
            for two, _ in RIGHT:
                for at in range(len(one)):
                    for claim in (one[:at] + two[at:], two[:at] + one[at:]):
                        self.check(claim, certificate, judged(claim, certificate))

    def test_one_value_put_otherwise(self):
        accepted = 0
        for claim, certificate in RIGHT:
            for other in otherwise_everywhere((claim, certificate)):
                if type(other) is tuple and len(other) == 2:
                    self.check(*other, judged(*other))
                    accepted += judged(*other)
        self.assertGreater(accepted, 50)

    def test_two_values_put_otherwise(self):
        rng = random.Random(251)
        for claim, certificate in RIGHT:
            once = [other for other in otherwise_everywhere((claim, certificate))
                    if type(other) is tuple and len(other) == 2]
            for other in rng.sample(once, 25):
                twice = [each for each in otherwise_everywhere(other) if type(each) is tuple and len(each) == 2]
                for each in rng.sample(twice, min(60, len(twice))):
                    self.check(*each, judged(*each))

    def test_any_value_at_any_place(self):
        things = [*INNER, Hostile(), LINE, Desk(2), errors.Busy(), Line, accepts, -1, FAR, 10 ** 70, "", "ann"]
        for claim, certificate in RIGHT:
            for way in places((claim, certificate)):
                for thing in things if way else []:
                    other = replaced((claim, certificate), way, thing)
                    self.check(*other, judged(*other))

    def test_any_claim_and_any_certificate(self):
        things = [*NOT_TEXTS, *DEEP, Hostile(), LINE, Desk(2), errors.Busy(), "", "plan", ("plan",), ("plan", 2),
                  ("no plan",), (Hostile(),) * 4, (Hostile(), 2, (), ()), ("plan", Hostile(), Hostile(), Hostile())]
        for thing in things:
            for other in things:
                self.check(thing, other, False)
            for claim, certificate in RIGHT:
                self.check(thing, certificate, False)
                self.check(claim, thing, judged(claim, thing))
                self.check(claim + (thing,), certificate, False)
                self.check((thing,) + claim, certificate, False)
                self.check(claim[:-1] + (thing,), certificate, judged(claim[:-1] + (thing,), certificate))

    def test_words_that_cannot_be_hashed(self):
        class Word(str):
            __hash__ = None

        self.assertIn(accepts((Word("plan"), 2, TRIPS, PLAN), None), (True, False))
        self.assertIs(accepts((Word("other"), 2, TRIPS, PLAN), None), False)
        names = tuple((Word(name), seat) for name, seat in PLAN)
        self.assertIn(accepts(("plan", 2, TRIPS, names), None), (True, False))

    def test_truths_and_lists(self):
        one = (("ann", 1),)
        for claim, certificate in ((("plan", True, (("ann", 0, 3),), one), None),
                                   (("plan", 1, (("ann", False, 3),), one), None),
                                   (("plan", 1, (("ann", 0, True),), one), None),
                                   (("plan", 1, (("ann", 0, 1),), (("ann", True),)), None),
                                   (("number", 1, (("ann", 0, 1),), one, False), None),
                                   (("number", 2, (("ann", 0, 1),), (("ann", 2),), True), None),
                                   (("no plan", 1, (("ann", 0, 3), ("bob", 0, 3))), False),
                                   (("no plan", 1, (("ann", 0, 3), ("bob", 0, 3))), True),
                                   (("no seat", 1, (("ann", 0, 3),), one, 0, 3), True),
                                   (("no seat", 1, (("ann", 0, 3),), one, False, 3), 1),
                                   (("no seat", 1, (("ann", 0, 3),), one, 0, True), 0),
                                   (("changes", 2, (("ann", 0, 3),), one, 0, 3, False), (((2, 0, 3),), ())),
                                   (("changes", 1, (("ann", 1, 3),), one, 0, 1, 0), (((True, 0, 1),), ())),
                                   (("changes", 1, (("ann", 1, 3),), one, 0, 1, 0), (((1, False, True),), ())),
                                   (("changes", 1, (("ann", 1, 3),), one, 0, 1, 0), ([(1, 0, 1)], ())),
                                   (("changes", 1, (("ann", 1, 3),), one, 0, 1, 0), (((1, 0, 1),), [])),
                                   (("changes", 1, (("ann", 1, 3),), one, 0, 1, 0), [((1, 0, 1),), ()]),
                                   (("fixed", 2, (("ann", 0, 3),), (("ann", True),)), one),
                                   (("fixed", 2, (("ann", 0, 3),), one), (("ann", True),)),
                                   (("route", 2, (("ann", 0, 3),), (("ann", 2),), one), (("ann", True),)),
                                   (("route", 2, (("ann", 0, 3),), (("ann", 2),), one), [("ann", 1)]),
                                   (("route", 2, (("ann", 0, 3),), (("ann", 2),), one), (["ann", 1],))):
            self.check(claim, certificate, False)


class TruthTest(CheckerCase):
    """Whatever is accepted is true; and what the certificates say is accepted."""

    def check_true(self, claim, certificates):
        """The claim is true if one of the certificates is accepted, and each one is accepted as it should be."""
        found = [certificate for certificate in certificates if accepts(claim, certificate)]
        if found:
            self.assertTrue(is_true(claim), (claim, found))
        return bool(found)

    def lines(self):
        rng = random.Random(261)
        for seats in (1, 2, 3):
            every = list(small_lines(seats, 3))
            yield from rng.sample(every, 60)

    def test_plans(self):
        for line in self.lines():
            names = [name for name, _, _ in line.trips]
            for seats in itertools.product(range(line.capacity + 2), repeat=len(names)):
                plan = tuple(zip(names, seats))
                claim = ("plan", line.capacity, line.trips, plan)
                self.check(claim, None, plan in every_plan(line))
            claim = ("no plan", line.capacity, line.trips)
            self.assertEqual(self.check_true(claim, range(-1, 6)), not every_plan(line))

    def test_routes(self):
        rng = random.Random(262)
        for line in self.lines():
            plans = every_plan(line)
            for plan in plans:
                goal = rng.choice(plans)
                exchanges = every_exchange(line, plan)
                claim = ("route", line.capacity, line.trips, plan, goal)
                for many in range(len(line) + 2):
                    for _ in range(4):
                        certificate = tuple(rng.choice(exchanges) for _ in range(many)) if exchanges else ()
                        self.check(claim, certificate, judged(claim, certificate))

    def test_fixed_seats(self):
        for line in self.lines():
            plans = every_plan(line)
            obstacles = [("overfull", stretch) for stretch in range(-1, 5)]
            obstacles += [("cut", stops) for stops in subsets(stops_of(line))]
            for fixed in every_fixed(line):
                for word, certificates in (("fixed", plans), ("not fixed", obstacles)):
                    claim = (word, line.capacity, line.trips, fixed)
                    self.assertEqual(self.check_true(claim, certificates), is_true(claim), claim)

    def test_obstacles_of_crowded_lines(self):
        rng = random.Random(263)
        for line in some_lines(264, 40, 3, 5, 5):
            obstacles = [("overfull", stretch) for stretch in range(6)]
            obstacles += [("cut", stops) for stops in subsets(stops_of(line))]
            every = list(every_fixed(line))
            for fixed in rng.sample(every, min(12, len(every))):
                claim = ("not fixed", line.capacity, line.trips, fixed)
                self.assertEqual(self.check_true(claim, obstacles), is_true(claim), claim)
                for certificate in rng.sample(obstacles, 6):
                    self.check(claim, certificate, judged(claim, certificate))

    def test_numbers(self):
        for line in self.lines():
            for plan in every_plan(line):
                for number in range(-1, count(line) + 1):
                    claim = ("number", line.capacity, line.trips, plan, number)
                    self.check(claim, None, number >= 0 and is_true(claim))

    def test_passengers(self):
        rng = random.Random(265)
        spans = list(itertools.combinations(range(6), 2))
        for line in self.lines():
            for plan in every_plan(line)[:4]:
                for start, end in rng.sample(spans, 5):
                    claim = ("no seat", line.capacity, line.trips, plan, start, end)
                    self.assertEqual(self.check_true(claim, range(-1, 8)), is_true(claim))

    def test_changes(self):
        rng = random.Random(266)
        spans = list(itertools.combinations(range(5), 2))
        outcomes = []
        for _ in range(30):
            line = Line(2, tuple((name, *rng.choice(spans)) for name in NAMES_24[:rng.randint(1, 4)]))
            for plan in every_plan(line)[:1]:
                for start, end in spans:
                    for changes, certificates in enumerate(self.ways_with_pairs(start, end, spans)):
                        claim = ("changes", 2, line.trips, plan, start, end, changes)
                        found = self.check_true(claim, certificates)
                        self.assertEqual(found, is_true(claim), claim)
                        outcomes.append((changes, found))
                        certificate = rng.choice(certificates)
                        self.check(claim, certificate, judged(claim, certificate))
        self.assertEqual(set(outcomes), {(0, False), (0, True), (1, False), (1, True)})

    def ways_with_pairs(self, start, end, spans):
        """All certificates for no change, and for one change, with two seats."""
        none = [(((seat, start, end),), ()) for seat in (1, 2)]
        one = [(((seat, start, middle), (3 - seat, middle, end)), (pair,)) for seat in (1, 2)
               for middle in range(start, end + 1) for pair in spans]
        return none, one

    def test_more_or_fewer_changes_than_needed(self):
        for line in some_lines(267, 150, 3, 5, 7):
            for plan in every_plan(line)[:3]:
                claim, certificate = certify_changes(line, plan, 0, 8)
                self.check(claim, certificate, True)
                self.assertTrue(is_true(claim))
                if claim[0] == "changes":
                    changes, (triples, pairs) = claim[-1], certificate
                    for wrong in (changes - 1, changes + 1):
                        for other in (certificate, (triples[:wrong + 1], pairs[:wrong]),
                                      (triples + triples[-1:], pairs + pairs[-1:])):
                            self.check(claim[:-1] + (wrong,), other, False)
                    # A way with a change that is not needed.
                    seat, since, until = triples[-1]
                    if until - since > 1:
                        middle = since + 1
                        split = triples[:-1] + ((seat, since, middle), (seat, middle, until))
                        for more in ((since, middle), (since, until), (middle, until)):
                            self.check(claim[:-1] + (changes + 1,), (split, pairs + (more,)), False)


class LargeTest(CheckerCase):

    def test_one_value_put_otherwise_far_apart(self):
        rng = random.Random(271)
        for line in some_lines(272, 12, 3, 4, 6):
            places_far = far_places(rng, 8)
            far = stretched(line, places_far)
            rows = [certify_plan(far)]
            plans = every_plan(line)
            if plans:
                plan, goal = rng.choice(plans), rng.choice(plans)
                rows += [certify_route(far, plan, goal), certify_number(far, plan),
                         certify_changes(far, plan, places_far[1], places_far[7])]
            every = list(every_fixed(line))
            rows += [certify_fixed(far, fixed) for fixed in rng.sample(every, min(3, len(every)))]
            for row in rows:
                self.check(*row, True)
                others = [other for other in otherwise_everywhere(row) if type(other) is tuple and len(other) == 2]
                for other in rng.sample(others, min(250, len(others))):
                    self.check(*other, judged(*other))

    def test_24_trips_with_20_seats(self):
        rng = random.Random(273)
        trips = tuple((name, at, at + 19) for at, name in enumerate(NAMES_24))
        line = Line(20, trips)
        total = count(line)
        for _ in range(5):
            numbers = [rng.randrange(total) for _ in range(2)]
            plan, goal = [plan_at(line, number) for number in numbers]
            self.check(("plan", 20, trips, plan), None, True)
            self.check(("number", 20, trips, plan, numbers[0]), None, True)
            for other in (numbers[0] + 1, numbers[0] - 1, numbers[1], total, 10 ** 70):
                self.check(("number", 20, trips, plan, other), None, other == numbers[0])
            claim, certificate = certify_route(line, plan, goal)
            self.check(claim, certificate, True)
            for at in range(len(certificate)):
                self.check(claim, certificate[:at] + certificate[at + 1:], False)
            self.check(claim, certificate + certificate[-1:], False)
        self.check(("plan", 21, trips, plan), None, False)
        self.check(("plan", 20, trips + (("zoe", 90, 91),), plan + (("zoe", 1),)), None, False)
        self.check(("no plan", 20, trips + (("zoe", 90, 91),)), 18, False)
        self.check(("no plan", 18, trips), 18, True)
        self.check(("no plan", 19, trips), 18, False)

    def test_routes_with_as_many_exchanges_as_trips(self):
        trips = (("ann", 0, 3), ("bob", 5, 6))
        plan, goal = (("ann", 1), ("bob", 1)), (("ann", 1), ("bob", 2))
        claim = ("route", 3, trips, plan, goal)
        self.check(claim, (("bob", 2),), True)
        self.check(claim, (("bob", 3), ("bob", 2)), True)
        self.check(claim, (("bob", 3), ("bob", 1), ("bob", 2)), False)
        self.check(claim, (("bob", 2), ("bob", 2)), False)


class ModuleTest(unittest.TestCase):

    def test_the_checker_stands_alone(self):
        """It imports nothing but limits and modules that no other module imports."""
        folder = pathlib.Path(importlib.import_module("seatchains.checker").__file__).parent
        imports = {}
        for file in folder.glob("*.py"):
            tree = ast.parse(file.read_text())
            imports["seatchains." + file.stem] = {node.module for node in ast.walk(tree)
                                                  if isinstance(node, ast.ImportFrom)}
        needed = set()
        waiting = ["seatchains.checker"]
        while waiting:
            for module in imports[waiting.pop()] - {"seatchains.limits"}:
                needed.add(module)
                waiting.append(module)
        for module, imported in imports.items():
            if module not in needed | {"seatchains.checker"}:
                self.assertEqual(imported & needed, set(), module)
        code = "import sys; import seatchains.checker; print(*sorted(name for name in sys.modules if 'seatch' in name))"
        call = [sys.executable, "-c", code]
        run = subprocess.run(call, cwd=folder.parent, capture_output=True, text=True, check=True)
        self.assertEqual(set(run.stdout.split()), {"seatchains", "seatchains.checker", "seatchains.limits", *needed})


if __name__ == "__main__":
    unittest.main()
