"""desk.py: do_all and its observers."""

import random
import unittest

from seatchains.desk import Desk
from seatchains.errors import (Busy, Full, InvalidAction, InvalidName, InvalidSeat, InvalidSeats, InvalidStation,
                               NameTaken, NotFree, NothingToUndo, Overfull, TooManyEntries, TooManyTrips)
from seatchains.lines import Line
from tests.samples import TRIPS_24, ErrorCase
from tests.test_desk import filled, some_action
from tests.wrong_actions import WRONG_ACTIONS, WRONG_ALL

ACTIONS = (("book", "ann", 0, 3), ("book", "bob", 2, 5), ("exchange", "ann", 2), ("seats", 3), ("shift", "bob", 3),
           ("cancel", "ann"), ("seats", 3))
PLANS = ((("ann", 1),), (("ann", 1), ("bob", 2)), (("ann", 2), ("bob", 1)), (("ann", 2), ("bob", 1)),
         (("ann", 2), ("bob", 3)), (("bob", 3),), (("bob", 3),))
SEATS = (2, 2, 2, 3, 3, 3, 3)

# Actions that fail behind the first two of ACTIONS on a desk with 2 seats, and their errors.
FAILING = (
    (("book", "A", 0, 1), InvalidName, {"name": "A"}), (("book", "carl", -1, 1), InvalidStation, {"station": -1}),
    (("book", "carl", 5, 5), InvalidStation, {"station": 5}), (("book", "ann", 5, 6), NameTaken, {"name": "ann"}),
    (("book", "carl", 0, 9), Full, {"station": 2}), (("cancel", "carl"), InvalidName, {"name": "carl"}),
    (("exchange", "carl", 1), InvalidName, {"name": "carl"}), (("exchange", "ann", 1), InvalidSeat, {"seat": 1}),
    (("exchange", "ann", 3), InvalidSeat, {"seat": 3}), (("shift", "ann", 2), NotFree, {"name": "ann"}),
    (("shift", "ann", 0), InvalidSeat, {"seat": 0}), (("seats", 0), InvalidSeats, {"value": 0}),
    (("seats", True), InvalidSeats, {"value": True}), (("seats", 1), Overfull, {"station": 2}),
)


class Stop(Exception):
    """Raised by an observer."""


def held(desk):
    """What do_all leaves as it was where it fails."""
    return [desk.line, desk.plan, desk.history(), desk.seats, desk.busy]


class AllTest(ErrorCase):

    def test_all_at_once(self):
        for many in range(len(ACTIONS) + 1):
            desk = Desk(2)
            self.assertEqual(desk.do_all(ACTIONS[:many]), PLANS[many - 1] if many else ())
            self.assertEqual(held(desk)[1:], [PLANS[many - 1] if many else (), ACTIONS[:many],
                                              SEATS[many - 1] if many else 2, False])
            one_by_one = Desk(2)
            for action in ACTIONS[:many]:
                one_by_one.do(action)
            self.assertEqual(held(one_by_one), held(desk))
            self.assertEqual([desk.attempts, one_by_one.attempts], [1, 0])

    def test_by_position_and_by_name(self):
        for call in (lambda desk: desk.do_all(ACTIONS), lambda desk: desk.do_all(actions=ACTIONS),
                     lambda desk: desk.do_all(ACTIONS, observer=None),
                     lambda desk: desk.do_all(observer=None, actions=ACTIONS)):
            desk = Desk(2)
            self.assertEqual([call(desk), desk.history()], [PLANS[-1], ACTIONS])
        with self.assertRaises(TypeError):
            Desk(2).do_all(ACTIONS, None)

    def test_no_actions(self):
        desk = filled(2, ("ann", 0, 3))
        before = held(desk)
        told = []
        for attempt in range(1, 4):
            self.assertEqual(desk.do_all((), observer=lambda *args: told.append(args)), (("ann", 1),))
            self.assertEqual([held(desk), desk.attempts, told], [before, attempt, []])

    def test_undo_goes_through_the_actions_one_by_one(self):
        desk = Desk(2)
        desk.do_all(ACTIONS)
        for at in range(len(ACTIONS) - 1, -1, -1):
            self.assertEqual([desk.undo(), desk.history()], [ACTIONS[at], ACTIONS[:at]])
            self.assertEqual([desk.plan, desk.seats], [PLANS[at - 1] if at else (), SEATS[at - 1] if at else 2])
        self.assert_error(NothingToUndo, {}, desk.undo)
        self.assertEqual(desk.attempts, 1)

    def test_random_actions_all_or_none(self):
        rng = random.Random(241)
        outcomes = []
        for _ in range(300):
            desk, other = Desk(3), Desk(3)
            actions = []
            for _ in range(rng.randint(0, 7)):
                actions.append(some_action(rng, other.line))
                try:
                    other.do(actions[-1])
                except (ValueError, LookupError):
                    pass
            one_by_one = Desk(3)
            error = None
            try:
                for action in actions:
                    one_by_one.do(action)
            except (ValueError, LookupError) as caught:
                error = caught
            outcomes.append(error is None)
            if error is None:
                self.assertEqual(desk.do_all(tuple(actions)), one_by_one.plan)
                self.assertEqual(held(desk), held(one_by_one))
            else:
                self.assert_error(type(error), vars(error), desk.do_all, tuple(actions))
                self.assertEqual(held(desk), held(Desk(3)))
            self.assertEqual(desk.attempts, 1)
        self.assertGreater(min(outcomes.count(True), outcomes.count(False)), 30)

    def test_an_action_that_fails_at_each_index(self):
        steady = (("seats", 2),) * 5
        for action, kind, fields in FAILING:
            for at in range(6):
                desk = filled(2, ("ann", 0, 3), ("bob", 2, 5))
                before = held(desk)
                actions = steady[:at] + (action,) + steady[at:]
                for attempt in range(1, 3):
                    told = []
                    self.assert_error(kind, fields, desk.do_all, actions,
                                      observer=lambda _, index: told.append(index))
                    self.assertEqual([held(desk), desk.attempts, told], [before, attempt, list(range(at))])
                self.assertEqual(desk.do_all(steady), (("ann", 1), ("bob", 2)))

    def test_the_first_error_counts(self):
        for action, kind, fields in FAILING:
            desk = Desk(2)
            self.assert_error(kind, fields, desk.do_all, ACTIONS[:2] + (action, ("cancel", "zoe"), ("seats", 99)))
            self.assertEqual([held(desk), desk.attempts], [held(Desk(2)), 1])

    def test_too_many_entries(self):
        for before in (0, 1, 50, 99, 100):
            desk = Desk(2)
            for _ in range(before):
                desk.seats = 2
            then = held(desk)
            told = []
            self.assert_error(TooManyEntries, {"found": 101}, desk.do_all, (("seats", 3),) * (101 - before),
                              observer=lambda _, index: told.append(index))
            self.assertEqual([held(desk), told, desk.attempts], [then, list(range(100 - before)), 1])
            self.assertEqual(desk.do_all((("seats", 3),) * (100 - before)), ())
            self.assertEqual([len(desk.history()), desk.seats], [100, 3 if before < 100 else 2])

    def test_too_many_trips(self):
        desk = Desk(20)
        actions = tuple(("book", *trip) for trip in TRIPS_24)
        self.assert_error(TooManyTrips, {"found": 25}, desk.do_all, actions + (("book", "zoe", 1, 2),))
        self.assertEqual([len(desk.line), len(desk.do_all(actions)), len(desk.line)], [0, 24, 24])

    def test_invalid_actions(self):
        for thing, index in WRONG_ALL:
            desk = filled(2, ("ann", 0, 3))
            before = held(desk)
            told = []
            self.assert_error(InvalidAction, {"index": index}, desk.do_all, thing,
                              observer=lambda *args: told.append(args))
            self.assertEqual([held(desk), desk.attempts, told], [before, 0, []])
            self.assertEqual([desk.do_all((("seats", 2),)), desk.attempts], [(("ann", 1),), 1])

    def test_an_invalid_action_at_each_index(self):
        for at in range(len(ACTIONS) + 1):
            for thing in WRONG_ACTIONS:
                desk = Desk(2)
                self.assert_error(InvalidAction, {"index": at}, desk.do_all, ACTIONS[:at] + (thing,) + ACTIONS[at:])
                self.assert_error(InvalidAction, {"index": at}, desk.do_all, ACTIONS[:at] + (thing, thing))
                self.assertEqual([held(desk), desk.attempts], [held(Desk(2)), 0])

    def test_invalid_actions_come_before_those_that_fail(self):
        desk = Desk(2)
        self.assert_error(InvalidAction, {"index": 2}, desk.do_all, (("cancel", "zoe"), ("seats", 0), ("seats",)))
        self.assertEqual(desk.attempts, 0)


class ObserverTest(ErrorCase):

    def test_it_is_called_after_each_action(self):
        desk = Desk(2)
        told = []

        def observer(*args):
            told.append((args, desk.plan, desk.seats, desk.history(), desk.busy, desk.attempts, str(desk), repr(desk),
                         desk.line))

        desk.do_all(ACTIONS, observer=observer)
        copy = Desk(2)
        for at, (action, row) in enumerate(zip(ACTIONS, told, strict=True)):
            copy.do(action)
            self.assertIs(row[0][0], desk)
            self.assertEqual(row, ((desk, at), PLANS[at], SEATS[at], ACTIONS[:at + 1], True, 1, str(copy), repr(copy),
                                   copy.line))
        self.assertIs(desk.busy, False)

    def test_what_would_change_the_desk_is_busy(self):
        def assign(desk):
            desk.seats = 5

        calls = [lambda desk: desk.do(("seats", 5)), lambda desk: desk.book("zoe", 50, 60),
                 lambda desk: desk.cancel("ann"), lambda desk: desk.exchange("ann", 2), lambda desk: desk.resize(5),
                 lambda desk: desk.shift("ann", 2), lambda desk: desk.undo(), assign, lambda desk: desk.do_all(()),
                 lambda desk: desk.do_all((("seats", 5),)), lambda desk: desk.do_all(ACTIONS, observer=None),
                 # Busy comes before all other errors.
                 lambda desk: desk.do(None), lambda desk: desk.do_all(None), lambda desk: desk.do_all((None,)),
                 lambda desk: desk.book(None, None, None), lambda desk: desk.cancel(None),
                 lambda desk: desk.exchange(None, None), lambda desk: desk.shift(None, None),
                 lambda desk: desk.resize(None), lambda desk: setattr(desk, "seats", None)]
        for call in calls:
            desk = Desk(2)
            told = []

            def observer(same, index):
                before = held(same)
                self.assert_error(Busy, {}, call, same)
                self.assertEqual([held(same), same.attempts], [before, 1])
                told.append(index)

            self.assertEqual(desk.do_all(ACTIONS, observer=observer), PLANS[-1])
            self.assertEqual([told, desk.history(), desk.busy, desk.attempts],
                             [list(range(len(ACTIONS))), ACTIONS, False, 1])

            def passing_on(same, index):
                if index == 3:
                    call(same)

            again = filled(2, ("zoe", 7, 9))
            before = held(again)
            self.assert_error(Busy, {}, again.do_all, ACTIONS, observer=passing_on)
            self.assertEqual([held(again), again.attempts], [before, 1])
            again.undo()

    def test_an_observer_that_raises(self):
        for error in (Stop(), ValueError("told"), KeyError(3), StopIteration(), KeyboardInterrupt(), Busy(), Full(7)):
            for at in range(len(ACTIONS)):
                desk = filled(2, ("zoe", 7, 9))
                before = held(desk)

                def observer(_, index):
                    if index == at:
                        raise error

                with self.assertRaises(type(error)) as caught:
                    desk.do_all(ACTIONS, observer=observer)
                self.assertIs(caught.exception, error)
                self.assertEqual([held(desk), desk.attempts], [before, 1])
                desk.do_all(ACTIONS)
                self.assertEqual([len(desk.history()), desk.attempts, desk.busy], [8, 2, False])
                for _ in range(8):
                    desk.undo()
                self.assertEqual(desk.line, Line(2))

    def test_busy_is_over_after_each_call(self):
        desk = Desk(2)
        self.assert_error(InvalidAction, {"index": None}, desk.do_all, None)
        self.assertIs(desk.busy, False)
        self.assert_error(Full, {"station": 0}, desk.do_all, (("seats", 1), ("book", "a", 0, 1), ("book", "b", 0, 1)))
        self.assertIs(desk.busy, False)
        desk.do_all(())
        self.assertIs(desk.busy, False)
        self.assertEqual([desk.book("ann", 0, 1), desk.undo()], [(("ann", 1),), ("book", "ann", 0, 1)])
        self.assertEqual(desk.attempts, 2)

    def test_attempts_before_while_and_after(self):
        desk = Desk(2)
        told = []
        for attempt in range(1, 4):
            self.assertEqual(desk.attempts, attempt - 1)
            desk.do_all((("seats", 2),), observer=lambda same, _: told.append(same.attempts))
            self.assertEqual([desk.attempts, told[-1]], [attempt, attempt])
        self.assert_error(InvalidAction, {"index": 0}, desk.do_all, (None,))
        self.assertEqual(desk.attempts, 3)
        self.assert_error(InvalidName, {"name": "bob"}, desk.do_all, (("cancel", "bob"),))
        self.assertEqual(desk.attempts, 4)
        self.assert_error(InvalidSeats, {"value": 0}, desk.resize, 0)
        desk.resize(3)
        desk.undo()
        self.assertEqual(desk.attempts, 4)

    def test_another_desk_in_the_observer(self):
        one, two, told = Desk(2), Desk(3), []

        def inner(desk, index):
            self.assertEqual([one.busy, two.busy, desk is two], [True, True, True])
            self.assert_error(Busy, {}, one.undo)
            self.assert_error(Busy, {}, two.undo)
            told.append((len(one.history()), index))

        def outer(desk, index):
            self.assertEqual([one.busy, two.busy], [True, False])
            two.do_all(ACTIONS[:2] if index == 0 else (("seats", 3),), observer=inner)
            self.assertEqual([one.busy, two.busy], [True, False])
            two.resize(3)
            self.assert_error(InvalidName, {"name": "zoe"}, two.do_all, (("seats", 4), ("cancel", "zoe")))
            self.assertEqual([one.busy, two.busy, two.seats], [True, False, 3])

        one.do_all(ACTIONS[:3], observer=outer)
        self.assertEqual(told, [(1, 0), (1, 1), (2, 0), (3, 0)])
        self.assertEqual([one.busy, two.busy, one.attempts, two.attempts], [False, False, 1, 6])
        self.assertEqual(one.history(), ACTIONS[:3])
        self.assertEqual(two.history(), ACTIONS[:2] + (("seats", 3),) * 5)

    def test_an_observer_of_another_desk_that_fails(self):
        one, two = Desk(2), Desk(2)
        with self.assertRaises(InvalidName):
            one.do_all(ACTIONS[:2], observer=lambda desk, index: two.do_all((("seats", 5), ("cancel", "zoe"))))
        self.assertEqual([held(one), held(two), one.attempts, two.attempts], [held(Desk(2)), held(Desk(2)), 1, 1])


if __name__ == "__main__":
    unittest.main()
