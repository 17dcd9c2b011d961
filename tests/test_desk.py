"""desk.py: the actions of a Desk, its history, and which desks are equal."""

import random
import unittest

from seatchains.booking import book
from seatchains.chains import exchanged, is_shift, route
from seatchains.desk import Desk
from seatchains.errors import InvalidSeats, NotFree, NothingToUndo, Overfull, TooManyEntries, TooManyTrips
from seatchains.lines import Line
from seatchains.plans import is_plan, least_plan
from seatchains.shifting import free_seats
from tests.reference import after, chain_of, is_free, least_overfull, load
from tests.samples import FAR, NAMES_24, NOT_INTEGERS, TRIPS_24, ErrorCase, Plain, Pretender
from tests.wrong import LINE


def filled(seats, *trips):
    """A desk with these trips booked."""
    desk = Desk(seats)
    for trip in trips:
        desk.book(*trip)
    return desk


def state(desk):
    return [desk.line, desk.plan, desk.seats, desk.busy, desk.attempts, desk.history(), str(desk), repr(desk)]


def by_do(desk, action):
    return desk.do(action)


def by_method(desk, action):
    return getattr(desk, {"seats": "resize"}.get(action[0], action[0]))(*action[1:])


def by_name(desk, action):
    names = {"book": "end start name", "exchange": "seat name", "shift": "seat name", "cancel": "name"}
    values = dict(zip(names.get(action[0], "seats").split(), action[:0:-1]))
    return getattr(desk, {"seats": "resize"}.get(action[0], action[0]))(**values)


def by_do_named(desk, action):
    return desk.do(action=action)


def by_do_all(desk, action):
    return desk.do_all((action,))


def by_assignment(desk, action):
    if action[0] != "seats":
        return desk.do(action)
    desk.seats = action[1]
    return desk.plan


WAYS = (by_do, by_method, by_name, by_do_named, by_do_all, by_assignment)


def some_action(rng, line, last=9):
    """An action taken at random; it may fail."""
    word = rng.choice(("book", "book", "book", "cancel", "exchange", "exchange", "shift", "seats"))
    name = rng.choice([row[0] for row in line.trips] or ["nobody"])
    if word == "book":
        start, end = sorted(rng.sample(range(last + 1), 2))
        return (word, rng.choice("abcdefghij"), start, end)
    if word == "cancel":
        return (word, name)
    if word == "seats":
        return (word, rng.randint(1, 5))
    return (word, name, rng.randint(1, line.capacity))


class ActionsTest(ErrorCase):

    def test_a_new_desk(self):
        for seats in range(1, 21):
            desk = Desk(seats)
            self.assertEqual(state(desk), [Line(seats), (), seats, False, 0, (), "-", f"Desk({seats} seats, 0 trips)"])
            self.assertEqual([type(desk.busy), type(desk.attempts), type(desk.line)], [bool, int, Line])
        self.assertEqual(Desk(seats=3), Desk(3))

    def test_numbers_of_seats(self):
        for thing in [*NOT_INTEGERS, 0, 21, -1, FAR, -FAR]:
            self.assert_error(InvalidSeats, {"value": thing}, Desk, thing)
        self.assertEqual(Desk(1).seats, 1)

    def test_each_action_in_each_way(self):
        actions = (("book", "ann", 0, 3), ("book", "bob", 2, 5), ("exchange", "ann", 2), ("seats", 3),
                   ("shift", "bob", 3), ("cancel", "ann"), ("seats", 1))
        plans = ((("ann", 1),), (("ann", 1), ("bob", 2)), (("ann", 2), ("bob", 1)), (("ann", 2), ("bob", 1)),
                 (("ann", 2), ("bob", 3)), (("bob", 3),), (("bob", 1),))
        for way in WAYS:
            desk = Desk(2)
            for action, plan in zip(actions, plans):
                self.assertEqual(way(desk, action), plan)
                self.assertEqual([desk.plan, desk.history()[-1], desk.busy], [plan, action, False])
            self.assertEqual([desk.history(), desk.line, desk.seats], [actions, Line.read("1 bob:2-5"), 1])
            self.assertEqual(desk.attempts, len(actions) if way == by_do_all else 0)

    def test_the_seat_of_a_new_trip(self):
        rng = random.Random(221)
        moved = 0
        for _ in range(60):
            desk = Desk(rng.randint(1, 4))
            for _ in range(15):
                name = rng.choice(NAMES_24)
                start, end = sorted(rng.sample(range(12), 2))
                line, plan = desk.line, desk.plan
                full = any(load(line, station) >= line.capacity for station in range(start, end))
                if full or name in line.order:
                    desk.cancel(rng.choice(line.order))
                    continue
                found = desk.book(name, start, end)
                later, exchanges, goal = book(line, plan, name, start, end)
                self.assertEqual([desk.line, desk.plan, found], [later, goal, goal])
                free = [seat for seat in range(1, line.capacity + 1) if is_free(line, plan, seat, start, end)]
                if free:
                    self.assertEqual(found, tuple(sorted(plan + ((name, free[0]),))))
                else:
                    moved += 1
                    for exchange in exchanges:
                        plan = after(line, plan, *exchange)
                    self.assertLessEqual(len(exchanges), len(line))
                    self.assertEqual(plan, tuple(pair for pair in found if pair[0] != name))
        self.assertGreater(moved, 10)

    def test_cancel(self):
        desk = filled(2, *LINE.trips)
        self.assertEqual(desk.cancel("bob"), (("ann", 1), ("carl", 1)))
        self.assertEqual(desk.line, LINE.without("bob"))
        self.assertEqual([desk.cancel("ann"), desk.cancel("carl")], [(("carl", 1),), ()])
        self.assertEqual([desk.line, desk.plan, str(desk)], [Line(2), (), "-"])

    def test_exchange_and_shift(self):
        rng = random.Random(222)
        outcomes = []
        for _ in range(40):
            desk = filled(rng.randint(2, 5), *TRIPS_24[:rng.randint(2, 24)])
            for _ in range(12):
                line, plan = desk.line, desk.plan
                name, own = rng.choice(plan)
                seat = rng.choice([seat for seat in range(1, line.capacity + 1) if seat != own])
                alone = chain_of(line, plan, name, seat) == {name}
                outcomes.append(alone)
                self.assertEqual([is_shift(line, plan, name, seat), seat in free_seats(line, plan, name)], [alone] * 2)
                if alone:
                    self.assertEqual(desk.shift(name, seat), after(line, plan, name, seat))
                    desk.undo()
                else:
                    before = state(desk)
                    self.assert_error(NotFree, {"name": name}, desk.shift, name, seat)
                    self.assertEqual(state(desk), before)
                self.assertEqual(desk.exchange(name, seat), after(line, plan, name, seat))
                self.assertEqual([desk.plan, desk.line], [exchanged(line, plan, name, seat), line])
        self.assertEqual(set(outcomes), {True, False})

    def test_seats(self):
        desk = filled(4, ("ann", 0, 3), ("bob", 2, 5))
        self.assertEqual(desk.shift("ann", 4), (("ann", 4), ("bob", 2)))
        self.assertEqual([desk.resize(20), desk.seats], [(("ann", 4), ("bob", 2)), 20])
        self.assertEqual([desk.resize(4), desk.seats], [(("ann", 4), ("bob", 2)), 4])
        self.assertEqual([desk.resize(3), desk.seats], [(("ann", 1), ("bob", 2)), 3])
        self.assertEqual([desk.exchange("ann", 2), desk.resize(2)], [(("ann", 2), ("bob", 1))] * 2)
        self.assert_error(Overfull, {"station": 2}, desk.resize, 1)
        self.assertEqual([desk.cancel("bob"), desk.resize(1), desk.line],
                         [(("ann", 2),), (("ann", 1),), Line.read("1 ann:0-3")])
        empty = Desk(7)
        self.assertEqual([empty.resize(1), empty.line, empty.resize(20), empty.seats], [(), Line(1), (), 20])

    def test_seats_of_any_plan(self):
        rng = random.Random(223)
        kinds = set()
        for _ in range(80):
            desk = Desk(6)
            for trip in TRIPS_24[:rng.randint(1, 24)]:
                desk.book(*trip)
                desk.exchange(trip[0], rng.choice([seat for seat in range(1, 7) if seat != dict(desk.plan)[trip[0]]]))
            seats = rng.randint(1, 8)
            later = Line(seats, desk.line.trips)
            station = least_overfull(later)
            plan = desk.plan
            if station is not None:
                self.assert_error(Overfull, {"station": station}, desk.resize, seats)
                kinds.add("overfull")
            elif any(seat > seats for _, seat in plan):
                self.assertEqual([desk.resize(seats), desk.line], [least_plan(later), later])
                kinds.add("least")
            else:
                self.assertEqual([desk.resize(seats), desk.line], [plan, later])
                kinds.add("same")
        self.assertEqual(kinds, {"overfull", "least", "same"})

    def test_actions_that_change_nothing(self):
        desk = filled(2, ("ann", 0, 3))
        for _ in range(3):
            desk.seats = 2
        self.assertEqual(desk.history(), (("book", "ann", 0, 3),) + (("seats", 2),) * 3)
        self.assertEqual([desk.undo(), len(desk.history()), str(desk)], [("seats", 2), 3, "ann=1"])

    def test_the_plan_depends_only_on_line_plan_and_action(self):
        rng = random.Random(224)
        for _ in range(40):
            desk = Desk(rng.randint(2, 4))
            for _ in range(12):
                action = some_action(rng, desk.line)
                # Another desk with this line and plan, which came to them another way.
                other = Desk(20)
                for row in desk.line.trips[::-1]:
                    other.book(*row)
                for exchange in route(other.line, other.plan, desk.plan):
                    other.exchange(*exchange)
                other.seats = desk.seats
                self.assertEqual(other, desk)
                results = []
                for each in (desk, other):
                    try:
                        results.append(each.do(action))
                    except (ValueError, LookupError) as error:
                        results.append((type(error), vars(error)))
                self.assertEqual(results[0], results[1])
                self.assertEqual(desk, other)

    def test_24_trips_and_one_more(self):
        for seats in (2, 20):
            desk = filled(seats, *TRIPS_24)
            self.assertEqual([len(desk.line), repr(desk)], [24, f"Desk({seats} seats, 24 trips)"])
            before = state(desk)
            self.assert_error(TooManyTrips, {"found": 25}, desk.book, "zoe", 90, 91)
            self.assert_error(TooManyTrips, {"found": 25}, desk.book, "zoe", 1, 2)
            self.assertEqual(state(desk), before)
            desk.cancel("c")
            self.assertEqual(len(desk.book("zoe", 90, 91)), 24)

    def test_far_apart(self):
        desk = filled(2, ("ann", 0, 10 ** 69), ("bob", 10 ** 69 + 1, FAR))
        self.assertEqual(desk.book("carl", 10 ** 69, 10 ** 69 + 1), (("ann", 1), ("bob", 1), ("carl", 1)))
        self.assertEqual(desk.book("dora", 0, FAR)[3], ("dora", 2))
        self.assertEqual(str(desk), "ann=1 bob=1 carl=1 dora=2")


class HistoryTest(ErrorCase):

    def test_each_action_as_it_was_passed(self):
        actions = [("book", "ann", 0, 3), ("book", "bob", 2, 5), ("exchange", "ann", 2), ("seats", 2)]
        desk = Desk(2)
        for action in actions[:2]:
            desk.do(action)
        desk.do_all(tuple(actions[2:]))
        for found, action in zip(desk.history(), actions):
            self.assertIs(found, action)
        self.assertIs(type(desk.history()), tuple)
        for action in actions[::-1]:
            self.assertIs(desk.undo(), action)

    def test_undo_back_to_the_beginning(self):
        rng = random.Random(231)
        for _ in range(40):
            desk = Desk(rng.randint(1, 4))
            before = []
            for _ in range(25):
                then = (desk.line, desk.plan, desk.history())
                try:
                    desk.do(some_action(rng, desk.line))
                    before.append(then)
                except (ValueError, LookupError):
                    self.assertEqual((desk.line, desk.plan, desk.history()), then)
                if rng.random() < 0.2 and before:
                    action = desk.history()[-1]
                    self.assertEqual(desk.undo(), action)
                    self.assertEqual((desk.line, desk.plan, desk.history()), before.pop())
                self.assertIs(is_plan(desk.line, desk.plan), True)
            while before:
                desk.undo()
                self.assertEqual((desk.line, desk.plan, desk.history()), before.pop())
            self.assert_error(NothingToUndo, {}, desk.undo)
            self.assertEqual([desk.plan, len(desk.line), desk.history()], [(), 0, ()])

    def test_nothing_to_undo(self):
        desk = Desk(2)
        for _ in range(2):
            self.assert_error(NothingToUndo, {}, desk.undo)
            desk.book("ann", 0, 1)
            self.assertEqual(desk.undo(), ("book", "ann", 0, 1))
        self.assertEqual(state(desk), state(Desk(2)))

    def test_the_desk_is_its_history(self):
        rng = random.Random(232)
        for _ in range(40):
            seats = rng.randint(1, 4)
            desk = Desk(seats)
            for _ in range(30):
                try:
                    desk.do(some_action(rng, desk.line))
                except (ValueError, LookupError):
                    pass
                if rng.random() < 0.15 and desk.history():
                    desk.undo()
            again, at_once = Desk(seats), Desk(seats)
            for action in desk.history():
                again.do(action)
            at_once.do_all(desk.history())
            self.assertEqual([again, at_once], [desk, desk])
            self.assertEqual([again.history(), at_once.history()], [desk.history()] * 2)

    def test_a_hundred_actions_and_one_more(self):
        more = (("seats", 3), ("book", "bob", 0, 1), ("cancel", "ann"), ("exchange", "ann", 2), ("shift", "ann", 2))
        desk = filled(2, ("ann", 0, 3))
        for _ in range(99):
            desk.seats = 2
        self.assertEqual(len(desk.history()), 100)
        before = state(desk)
        for action in more:
            for way in WAYS:
                if way != by_do_all:
                    self.assert_error(TooManyEntries, {"found": 101}, way, desk, action)
                    self.assertEqual(state(desk), before)
        self.assertEqual([desk.undo(), desk.do(more[3]), len(desk.history())], [("seats", 2), (("ann", 2),), 100])

    def test_the_other_errors_come_before_too_many_entries(self):
        desk = filled(1, ("ann", 0, 3))
        for _ in range(99):
            desk.resize(1)
        for action, name in ((("book", "A", 0, 1), "InvalidName"), (("book", "bob", -1, 1), "InvalidStation"),
                             (("book", "ann", 5, 6), "NameTaken"), (("book", "bob", 2, 6), "Full"),
                             (("cancel", "bob"), "InvalidName"), (("exchange", "ann", 1), "InvalidSeat"),
                             (("shift", "ann", 2), "InvalidSeat"), (("seats", 0), "InvalidSeats"),
                             (("seat", 1), "InvalidAction"), (("book", "bob", 7, 8), "TooManyEntries")):
            with self.assertRaises(Exception) as caught:
                desk.do(action)
            self.assertEqual(type(caught.exception).__name__, name)
        full = filled(2, ("ann", 0, 3), ("bob", 2, 5))
        for _ in range(98):
            full.resize(2)
        self.assert_error(NotFree, {"name": "ann"}, full.shift, "ann", 2)
        self.assert_error(Overfull, {"station": 2}, full.resize, 1)
        self.assert_error(TooManyEntries, {"found": 101}, full.exchange, "ann", 2)


class EqualityTest(ErrorCase):

    def assert_equal_both_ways(self, one, two, worth):
        self.assertEqual([one == two, two == one, one != two, two != one], [worth, worth, not worth, not worth])

    def test_equal_desks(self):
        one = filled(2, ("ann", 0, 3), ("bob", 2, 5))
        self.assert_equal_both_ways(one, one, True)
        self.assert_equal_both_ways(one, filled(2, ("ann", 0, 3), ("bob", 2, 5)), True)
        # Neither the history nor the attempts count.
        other = Desk(3)
        other.do_all((("book", "bob", 2, 5), ("exchange", "bob", 2), ("book", "zoe", 1, 9), ("book", "ann", 0, 3)))
        other.do_all((("cancel", "zoe"), ("exchange", "ann", 1) if dict(other.plan)["ann"] != 1 else ("seats", 3)))
        other.resize(2)
        self.assert_equal_both_ways(one, other, True)
        self.assert_equal_both_ways(Desk(2), Desk(2), True)

    def test_unequal_desks(self):
        one = filled(2, ("ann", 0, 3), ("bob", 2, 5))
        swapped = filled(2, ("ann", 0, 3), ("bob", 2, 5))
        swapped.exchange("ann", 2)
        for other in (Desk(2), filled(3, ("ann", 0, 3), ("bob", 2, 5)), swapped, filled(2, ("ann", 0, 3)),
                      filled(2, ("ann", 0, 3), ("bob", 2, 6)), filled(2, ("ann", 0, 3), ("bobo", 2, 5))):
            self.assert_equal_both_ways(one, other, False)
        self.assert_equal_both_ways(Desk(2), Desk(3), False)

    def test_other_values(self):
        one = filled(2, ("ann", 0, 3))
        for thing in (None, True, 0, "", "ann=1", str(one), repr(one), one.line, one.plan, (one.line, one.plan), [], {},
                      Plain(), Desk, one.history()):
            self.assert_equal_both_ways(one, thing, False)
            self.assert_equal_both_ways(Desk(2), thing, False)
        self.assertIs(one == Pretender(), False)

    def test_every_desk_is_true(self):
        self.assertEqual([bool(Desk(1)), bool(filled(2, ("ann", 0, 3)))], [True, True])

    def test_texts(self):
        desk = filled(3, ("carl", 0, 3), ("ann", 1, 4), ("bob", 9, 10))
        self.assertEqual([str(desk), repr(desk)], ["ann=2 bob=1 carl=1", "Desk(3 seats, 3 trips)"])
        desk.resize(20)
        desk.shift("bob", 20)
        self.assertEqual([str(desk), repr(desk)], ["ann=2 bob=20 carl=1", "Desk(20 seats, 3 trips)"])
        self.assertEqual([str(Desk(1)), repr(Desk(1))], ["-", "Desk(1 seats, 0 trips)"])
        self.assertEqual(repr(filled(1, ("a", 0, 1))), "Desk(1 seats, 1 trips)")


if __name__ == "__main__":
    unittest.main()
