"""The examples of the document and of README.md, as they show them."""

import doctest
import pathlib
import unittest

from tests.samples import ErrorCase


class LinesExamplesTest(ErrorCase):

    def test_first(self):
        from seatchains.lines import Line
        line = Line.read("2 ann:0-3 bob:2-5 carl:3-4")
        self.assertEqual(
            repr([line.trips, line.order, line.peak, line.load(2), line.load(9), len(line)]),
            "[(('ann', 0, 3), ('bob', 2, 5), ('carl', 3, 4)), ('ann', 'bob', 'carl'), 2, 2, 0, 3]")

    def test_second(self):
        from seatchains.lines import Line
        line = Line.made(3, ("bob", 2, 5), ("ann", 4, 6))
        self.assertEqual(
            repr([str(line), list(line.walk()), repr(line.without("bob").added("zoe", 0, 9)), Line.is_name("Bob")]),
            "['3 ann:4-6 bob:2-5', [('bob', 2, 5), ('ann', 4, 6)], \"Line('3 ann:4-6 zoe:0-9')\", False]")

    def test_third(self):
        from seatchains.errors import InvalidTrips
        from seatchains.lines import Line
        self.assert_error(InvalidTrips, {"index": 1}, Line, 2, (("bob", 2, 5), ("ann", 4, 6)))


class PlansExamplesTest(ErrorCase):

    def test_first(self):
        from seatchains.lines import Line
        from seatchains.plans import all_plans, count, least_plan, number_of, overfull, plan_at
        line = Line.read("2 ann:0-3 bob:2-5 carl:3-4")
        self.assertEqual(
            repr([count(line), least_plan(line), number_of(line, (("ann", 2), ("bob", 1), ("carl", 2))),
                  list(all_plans(line)) == [plan_at(line, 0), plan_at(line, 1)]]),
            "[2, (('ann', 1), ('bob', 2), ('carl', 1)), 1, True]")
        self.assertIsNone(overfull(line))

    def test_second(self):
        from seatchains.lines import Line
        from seatchains.plans import count, overfull
        line = Line.read("1 ann:0-3 bob:2-5")
        self.assertEqual(
            repr([overfull(line), count(line), count(Line(20)), count(Line.read("20 ann:0-1000000 bob:5-6"))]),
            "[2, 0, 1, 380]")

    def test_third(self):
        from seatchains.errors import InvalidPlan
        from seatchains.lines import Line
        from seatchains.plans import number_of
        line = Line.read("2 ann:0-3 bob:2-5")
        self.assert_error(InvalidPlan, {"index": 1}, number_of, line, (("ann", 2), ("bob", 2)))


class ChainsExamplesTest(ErrorCase):

    def test_first(self):
        from seatchains.chains import chain, exchanged, follow, is_shift, route
        from seatchains.lines import Line
        line = Line.read("3 ann:0-3 bob:2-5 carl:3-4 dora:4-9")
        plan = (("ann", 1), ("bob", 2), ("carl", 1), ("dora", 1))
        goal = (("ann", 2), ("bob", 1), ("carl", 3), ("dora", 2))
        self.assertEqual(
            repr([chain(line, plan, "ann", 2), exchanged(line, plan, "carl", 3), is_shift(line, plan, "dora", 3),
                  follow(line, plan, route(line, plan, goal)) == goal]),
            "[('ann', 'bob', 'carl', 'dora'), (('ann', 1), ('bob', 2), ('carl', 3), ('dora', 1)), True, True]")


class BookingExamplesTest(ErrorCase):

    def test_first(self):
        from seatchains.booking import book, full_stretch
        from seatchains.chains import follow
        from seatchains.lines import Line
        line = Line.read("2 ann:0-2 bob:3-5")
        plan = (("ann", 1), ("bob", 2))
        later, exchanges, goal = book(line, plan, "carl", 1, 4)
        self.assertEqual(
            repr([str(later), len(exchanges) <= 2, follow(line, plan, exchanges) == goal[:2],
                  full_stretch(later, 0, 9)]),
            "['2 ann:0-2 bob:3-5 carl:1-4', True, True, 1]")

    def test_second(self):
        from seatchains.booking import book
        from seatchains.errors import Full
        from seatchains.lines import Line
        self.assert_error(Full, {"station": 1}, book, Line.read("1 ann:0-2"), (("ann", 1),), "bob", 1, 4)


class FixingExamplesTest(ErrorCase):

    def test_first(self):
        from seatchains.fixing import fixed_obstacle, fixed_plan
        from seatchains.lines import Line
        line = Line.read("2 ann:0-1 bob:1-2 carl:0-3")
        word, stops = fixed_obstacle(line, (("ann", 1), ("bob", 2)))
        self.assertEqual(repr([fixed_plan(line, (("ann", 1), ("bob", 2))), word, stops[0], 1 in stops]),
                         "[None, 'cut', 0, False]")

    def test_second(self):
        from seatchains.fixing import fixed_plan
        from seatchains.lines import Line
        self.assertEqual(repr(fixed_plan(Line.read("2 ann:0-1 bob:1-2 carl:0-1"), (("ann", 1), ("bob", 2)))),
                         "(('ann', 1), ('bob', 2), ('carl', 2))")


class ShiftingExamplesTest(ErrorCase):

    def test_first(self):
        from seatchains.lines import Line
        from seatchains.shifting import free_seats, shifts, stuck
        line = Line.read("2 ann:0-3 bob:2-5 carl:8-9")
        plan = (("ann", 1), ("bob", 2), ("carl", 1))
        self.assertEqual(
            repr([free_seats(line, plan, "carl"), stuck(line, plan),
                  shifts(line, plan, (("ann", 2), ("bob", 1), ("carl", 1)))]),
            "[(2,), ('ann', 'bob'), None]")

    def test_second(self):
        from seatchains.lines import Line
        from seatchains.shifting import shifts, stuck
        line = Line.read("3 ann:0-3 bob:2-5")
        plan = (("ann", 1), ("bob", 2))
        self.assertEqual(repr([len(shifts(line, plan, (("ann", 2), ("bob", 1)))), stuck(line, plan)]), "[3, ()]")


class ChangingExamplesTest(ErrorCase):

    def test_first(self):
        from seatchains.changing import blocks, itinerary
        from seatchains.lines import Line
        line = Line.read("2 ann:0-3 bob:3-6 carl:7-8")
        plan = (("ann", 1), ("bob", 2), ("carl", 2))
        self.assertEqual(
            repr([itinerary(line, plan, 1, 9), len(blocks(line, plan, 1, 9)), itinerary(line, plan, 3, 9)]),
            "[((2, 1, 3), (1, 3, 9)), 1, ((1, 3, 9),)]")


class FollowingExamplesTest(ErrorCase):

    def test_first(self):
        from seatchains.following import always_follows, follows
        from seatchains.lines import Line
        line = Line.read("2 ann:0-3 bob:1-9 carl:5-7 dora:9-10")
        self.assertEqual(
            repr([always_follows(line), follows(line, (("ann", 1), ("bob", 2), ("carl", 1), ("dora", 2)))]),
            "[(('ann', 'carl'),), (('ann', 'carl'), ('bob', 'dora'))]")


class DeskExamplesTest(ErrorCase):

    def test_first(self):
        from seatchains.desk import Desk
        desk = Desk(2)
        plans = [desk.book("ann", 0, 2), desk.book("bob", 1, 5), desk.book("carl", 2, 4)]
        self.assertEqual(
            repr([plans[2][0][1] == plans[2][2][1], len(desk.line), desk.undo(), repr(desk), desk.history()]),
            "[True, 3, ('book', 'carl', 2, 4), 'Desk(2 seats, 2 trips)', "
            "(('book', 'ann', 0, 2), ('book', 'bob', 1, 5))]")

    def test_second(self):
        from seatchains.desk import Desk
        desk = Desk(2)
        plan = desk.do_all((("book", "ann", 0, 2), ("book", "bob", 1, 5), ("seats", 4), ("shift", "ann", 4)))
        self.assertEqual(repr([dict(plan)["ann"], desk.seats, desk.attempts, desk.busy]), "[4, 4, 1, False]")

    def test_third(self):
        from seatchains.desk import Desk
        from seatchains.errors import Overfull
        desk = Desk(2)
        desk.do_all((("book", "ann", 0, 2), ("book", "bob", 1, 5)))
        self.assert_error(Overfull, {"station": 1}, desk.resize, 1)


class CertificatesExamplesTest(ErrorCase):

    def test_first(self):
        from seatchains.certificates import certify_fixed, certify_plan
        from seatchains.checker import accepts
        from seatchains.lines import Line
        line = Line.read("2 ann:0-1 bob:1-2 carl:0-3")
        claim, certificate = certify_fixed(line, (("ann", 1), ("bob", 2)))
        self.assertEqual(
            repr([claim[0], accepts(claim, certificate), accepts(claim, ("cut", (0, 3))),
                  accepts(claim, ("cut", (0,))), certify_plan(Line.read("1 ann:0-3 bob:2-5"))]),
            "['not fixed', True, True, False, (('no plan', 1, (('ann', 0, 3), ('bob', 2, 5))), 2)]")


class ConsoleExamplesTest(ErrorCase):

    def test_first(self):
        from seatchains.console import Console
        console = Console(2)
        texts = [console.run("book ann 0 3"), console.run("shift ann 2"), console.run("count"), console.run("number")]
        self.assertEqual(repr([texts, console.run("trip 1 9"), console.run("load 2"), console.run("undo")]),
                         "[['ann=1', 'ann=2', '2', '1'], '1:1-9', '1', 'ann=1']")

    def test_second(self):
        from seatchains.console import Console
        from seatchains.errors import InvalidCommand
        self.assert_error(InvalidCommand, {"command": "book ann 0 03"}, Console(2).run, "book ann 0 03")


class ReadmeTest(unittest.TestCase):

    def test_examples(self):
        text = (pathlib.Path(__file__).parent.parent / "README.md").read_text().replace("```", "")
        examples = doctest.DocTestParser().get_doctest(text, {}, "README.md", None, 0)
        told = []
        runner = doctest.DocTestRunner(verbose=False)
        runner.run(examples, out=told.append)
        self.assertGreater(runner.tries, 20)
        self.assertEqual("".join(told), "")


if __name__ == "__main__":
    unittest.main()
