"""The class Line: how it is created, and what it tells of itself."""

import itertools
import unittest

from seatchains.errors import InvalidSeats, InvalidStation, InvalidTrips
from seatchains.lines import Line
from tests.samples import (DEEP, FAR, INNER, NAMES_24, NOT_INTEGERS, NOT_TEXTS, TRIPS_24, ErrorCase, Plain, Pretender,
                           deep)

ANN, BOB, CARL = ("ann", 0, 3), ("bob", 2, 5), ("carl", 3, 4)
TRIPS = (ANN, BOB, CARL)

# Not one of these is a trip.
NOT_TRIPS = [
    *INNER, "", "ann", "0", 0, 1, FAR,
    ["ann", 0, 3], ("ann", 0), ("ann", 0, 3, 4), ("ann", 0, 3, ()), ("ann",), (0, 3), (0, 3, "ann"), ("ann", "bob", 3),
    (("ann", 0, 3),), (("ann",), 0, 3), ("ann", (0,), 3), ("ann", [0], [3]), ["ann", [0, 3]], ("ann", (0, 3)),
    ("", 0, 3), ("Ann", 0, 3), ("ann ", 0, 3), ("an1", 0, 3), ("abcdefghi", 0, 3), (b"ann", 0, 3),
    (["a", "n"], 0, 3), (("a", "n"), 0, 3),
    ("ann", 3, 3), ("ann", 0, 0), ("ann", 4, 3), ("ann", -1, 3), ("ann", -3, -1), ("ann", FAR, FAR), ("ann", FAR, 0),
    *[(thing, 0, 3) for thing in [*INNER, 0, 1, FAR]],
    *[("ann", thing, 3) for thing in [*INNER, "", "0", "ann"]],
    *[("ann", 0, thing) for thing in [*INNER, "", "3", "bob"]],
    ("ann", False, True), ("ann", 0, True), ("ann", False, 1), ("ann", True, 3),
]


class CreatedTest(ErrorCase):

    def test_by_position_and_by_name(self):
        for line in (Line(2, TRIPS), Line(2, trips=TRIPS), Line(seats=2, trips=TRIPS), Line(trips=TRIPS, seats=2)):
            self.assertEqual((line.capacity, line.trips), (2, TRIPS))

    def test_trips_may_be_left_out(self):
        for line in (Line(3), Line(seats=3), Line(3, ()), Line(3, trips=())):
            self.assertEqual((line.capacity, line.trips, line.order, line.peak), (3, (), (), 0))
            self.assertEqual((len(line), list(line.walk()), str(line)), (0, [], "3"))

    def test_numbers_of_seats(self):
        for seats in range(1, 21):
            self.assert_same(Line(seats).capacity, seats)
            self.assertEqual(Line(seats, TRIPS).capacity, seats)
        for seats in (0, 21, 22, -1, -20, FAR, -FAR):
            self.assert_error(InvalidSeats, {"value": seats}, Line, seats)

    def test_seats_of_another_kind(self):
        for seats in NOT_INTEGERS:
            self.assert_error(InvalidSeats, {"value": seats}, Line, seats)
            self.assert_error(InvalidSeats, {"value": seats}, Line, seats=seats, trips=TRIPS)

    def test_seats_are_checked_before_trips(self):
        for seats in (0, 21, True, None, []):
            for trips in (None, [], [ANN], (BOB, ANN), (0,), TRIPS_24 + (("z", 0, 1),)):
                self.assert_error(InvalidSeats, {"value": seats}, Line, seats, trips)

    def test_more_trips_than_seats_may_pass_a_stretch(self):
        line = Line(1, TRIPS)
        self.assertEqual((line.capacity, line.peak), (1, 2))

    def test_many_trips(self):
        self.assertEqual(Line(1, TRIPS_24).trips, TRIPS_24)
        self.assertEqual(Line(1, TRIPS_24[:23]).trips, TRIPS_24[:23])
        more = TRIPS_24 + (("y", 0, 1), ("z", 0, 1))
        self.assert_error(InvalidTrips, {"index": 24}, Line, 1, more[:25])
        self.assert_error(InvalidTrips, {"index": 24}, Line, 1, more)
        self.assert_error(InvalidTrips, {"index": 24}, Line, 20, more[:24] + (0,))
        self.assert_error(InvalidTrips, {"index": 7}, Line, 1, more[:7] + (0,) + more[7:])
        self.assert_error(InvalidTrips, {"index": 23}, Line, 1, more[:23] + (0,) + more[23:])

    def test_trips_that_are_not_a_tuple(self):
        for trips in [*NOT_TEXTS, "", "ann", list(TRIPS), dict.fromkeys(TRIPS), [], set(TRIPS), iter(TRIPS)]:
            if not isinstance(trips, tuple):
                self.assert_error(InvalidTrips, {"index": None}, Line, 2, trips)
                self.assert_error(InvalidTrips, {"index": None}, Line, seats=2, trips=trips)

    def test_the_arguments_stay_as_they_are(self):
        trips = [["ann", 0, 3], ["bob", 2, 5]]
        self.assert_error(InvalidTrips, {"index": None}, Line, 2, trips)
        self.assert_error(InvalidTrips, {"index": 0}, Line, 2, tuple(trips))
        self.assertEqual(trips, [["ann", 0, 3], ["bob", 2, 5]])

    def test_elements_that_are_not_trips(self):
        for thing in NOT_TRIPS:
            self.assert_error(InvalidTrips, {"index": 0}, Line, 2, (thing,))
            self.assert_error(InvalidTrips, {"index": 0}, Line, 2, (thing, BOB, CARL))
            self.assert_error(InvalidTrips, {"index": 1}, Line, 2, (("aa", 0, 9), thing))
            self.assert_error(InvalidTrips, {"index": 2}, Line, 2, (("aa", 0, 9), ("ab", 0, 9), thing, 5, CARL))

    def test_a_trip_alone_is_no_tuple_of_trips(self):
        self.assert_error(InvalidTrips, {"index": 0}, Line, 2, ANN)

    def test_names_ascend(self):
        self.assert_error(InvalidTrips, {"index": 1}, Line, 2, (BOB, ANN))
        self.assert_error(InvalidTrips, {"index": 1}, Line, 2, (BOB, ANN, CARL))
        self.assert_error(InvalidTrips, {"index": 2}, Line, 2, (ANN, CARL, BOB))
        self.assert_error(InvalidTrips, {"index": 2}, Line, 2, (BOB, CARL, ANN))
        self.assert_error(InvalidTrips, {"index": 1}, Line, 2, (BOB, ANN, None))
        self.assert_error(InvalidTrips, {"index": 2}, Line, 2, (ANN, BOB, None, ANN))
        self.assert_error(InvalidTrips, {"index": 1}, Line, 2, (("abc", 0, 1), ("ab", 0, 1)))
        self.assertEqual(len(Line(2, (("ab", 0, 1), ("abc", 0, 1), ("b", 0, 1)))), 3)

    def test_names_differ(self):
        self.assert_error(InvalidTrips, {"index": 1}, Line, 2, (ANN, ANN))
        self.assert_error(InvalidTrips, {"index": 1}, Line, 2, (ANN, ("ann", 5, 6), BOB))
        self.assert_error(InvalidTrips, {"index": 2}, Line, 2, (ANN, BOB, ("bob", 2, 6)))

    def test_stations_far_apart(self):
        trips = (("ann", 0, FAR), ("bob", FAR - 1, FAR), ("carl", 10 ** 69, 10 ** 69 + 1))
        line = Line(20, trips)
        self.assertEqual((line.trips, line.order, line.peak), (trips, ("ann", "carl", "bob"), 2))
        stretches = (10 ** 69 - 1, 10 ** 69, FAR - 1, FAR)
        self.assertEqual([line.load(station) for station in stretches], [1, 2, 2, 0])

    def test_names_of_all_lengths(self):
        trips = tuple(("abcdefgh"[:many], 0, 1) for many in range(1, 9))
        self.assertEqual(Line(2, trips).trips, trips)


class ConstantsTest(ErrorCase):

    def test_at_the_class_and_at_a_line(self):
        for thing in (Line, Line(3), Line(2, TRIPS)):
            self.assert_same(thing.MOST_SEATS, 20)
            self.assert_same(thing.MOST_TRIPS, 24)


class PropertiesTest(ErrorCase):

    def test_kinds(self):
        line = Line(2, TRIPS)
        self.assertEqual([type(line.capacity), type(line.peak), type(line.trips), type(line.order)],
                         [int, int, tuple, tuple])

    def test_order_is_by_start_and_then_by_name(self):
        line = Line(2, (("a", 5, 9), ("b", 2, 3), ("c", 5, 6), ("d", 0, 9), ("e", 2, 9), ("f", 5, 7)))
        self.assertEqual(line.order, ("d", "b", "e", "a", "c", "f"))
        self.assertEqual(line.trips[0], ("a", 5, 9))

    def test_starts_are_ordered_as_numbers(self):
        line = Line(2, (("a", 10, 11), ("b", 9, 12), ("c", 100, 101)))
        self.assertEqual(line.order, ("b", "a", "c"))

    def test_peak(self):
        self.assertEqual(Line(5, (ANN,)).peak, 1)
        self.assertEqual(Line(5, (ANN, CARL)).peak, 1)
        self.assertEqual(Line(5, TRIPS).peak, 2)
        self.assertEqual(Line(1, (("a", 0, 9), ("b", 1, 8), ("c", 7, 9), ("d", 8, 9), ("e", 20, 30))).peak, 3)
        self.assertEqual(Line(1, TRIPS_24).peak, 2)
        self.assertEqual(Line(1, tuple((name, 5, 6) for name in NAMES_24)).peak, 24)

    def test_a_property_that_is_read_changes_nothing(self):
        line = Line(2, TRIPS)
        for name in ("capacity", "trips", "order", "peak"):
            self.assertEqual(getattr(line, name), getattr(line, name))
        self.assertEqual(line, Line(2, TRIPS))


class LoadTest(ErrorCase):

    def test_each_stretch(self):
        line = Line(2, TRIPS)
        self.assertEqual([line.load(station) for station in range(8)], [1, 1, 2, 2, 1, 0, 0, 0])

    def test_before_on_behind_and_far_off(self):
        line = Line(2, (("ann", 7, 9),))
        self.assertEqual([line.load(station) for station in (0, 6, 7, 8, 9, 10, FAR)], [0, 0, 1, 1, 0, 0, 0])
        self.assert_same(line.load(FAR), 0)
        self.assert_same(line.load(station=8), 1)

    def test_without_trips(self):
        self.assertEqual([Line(2).load(0), Line(2).load(FAR)], [0, 0])

    def test_what_is_no_station(self):
        for line in (Line(2), Line(2, TRIPS)):
            for station in [*NOT_INTEGERS, -1, -2, -FAR]:
                self.assert_error(InvalidStation, {"station": station}, line.load, station)


class WalkTest(ErrorCase):

    def test_in_the_order_of_the_line(self):
        line = Line(2, (("a", 5, 9), ("b", 2, 3), ("c", 5, 6), ("d", 0, 9), ("e", 2, 9)))
        walked = [("d", 0, 9), ("b", 2, 3), ("e", 2, 9), ("a", 5, 9), ("c", 5, 6)]
        self.assertEqual(list(line.walk()), walked)
        self.assertEqual([name for name, _, _ in line.walk()], list(line.order))

    def test_it_is_a_generator(self):
        walk = Line(2, TRIPS).walk()
        self.assertIs(iter(walk), walk)
        self.assertEqual([next(walk), next(walk), next(walk)], list(TRIPS))
        self.assertEqual([next(walk, None), next(walk, None)], [None, None])

    def test_two_walks_in_turns(self):
        line = Line(2, TRIPS)
        first, second = line.walk(), line.walk()
        self.assertEqual([next(first), next(first), next(second), next(first)], [ANN, BOB, ANN, CARL])
        self.assertEqual([list(second), list(first), list(line.walk())], [[BOB, CARL], [], list(TRIPS)])

    def test_walks_of_different_lines_in_turns(self):
        first, second = Line(2, TRIPS).walk(), Line(2, (CARL,)).walk()
        self.assertEqual(list(zip(first, second)), [(ANN, CARL)])


class EqualityTest(ErrorCase):

    def test_equal_lines(self):
        for line in (Line(2, TRIPS), Line.read("2 ann:0-3 bob:2-5 carl:3-4"), Line.made(2, CARL, ANN, BOB)):
            self.assertIs(line == Line(2, TRIPS), True)
            self.assertIs(line != Line(2, TRIPS), False)
        self.assertTrue(Line(4) == Line(4))

    def test_different_lines(self):
        line = Line(2, TRIPS)
        others = [Line(3, TRIPS), Line(2, TRIPS[:2]), Line(2), Line(2, (ANN, BOB, ("carl", 3, 5))),
                  Line(2, (ANN, BOB, ("carla", 3, 4))), Line(2, (ANN, ("bob", 1, 5), CARL))]
        for other in others:
            self.assertEqual([line == other, other == line], [False, False])
            self.assertEqual([line != other, other != line], [True, True])

    def test_values_of_other_kinds(self):
        others = [thing for thing in NOT_TEXTS if not isinstance(thing, Pretender)]
        for line in (Line(2, TRIPS), Line(2)):
            for other in [*others, str(line), repr(line), (2, TRIPS), (2, ()), 2, TRIPS]:
                self.assertEqual([line == other, other == line], [False, False])
                self.assertEqual([line != other, other != line], [True, True])

    def test_a_line_is_not_equal_to_whatever_pretends_so(self):
        self.assertIs(Line(2) == Pretender(), False)
        self.assertIs(Line(2) != Pretender(), True)

    def test_an_object_with_the_same_properties_is_no_line(self):
        other, line = Plain(), Line(2, TRIPS)
        for name in ("capacity", "trips", "order", "peak"):
            setattr(other, name, getattr(line, name))
        self.assertEqual([line == other, line != other], [False, True])


class TextTest(ErrorCase):

    def test_length_and_truth(self):
        lines = [Line(2), Line(2, (ANN,)), Line(2, TRIPS), Line(1, TRIPS_24)]
        self.assertEqual([len(line) for line in lines], [0, 1, 3, 24])
        self.assertEqual([bool(line) for line in lines], [False, True, True, True])

    def test_text(self):
        self.assertEqual(str(Line(20)), "20")
        self.assertEqual(str(Line(2, (ANN,))), "2 ann:0-3")
        self.assertEqual(str(Line(2, TRIPS)), "2 ann:0-3 bob:2-5 carl:3-4")
        self.assertEqual(str(Line(1, (("a", 10, 200), ("b", 0, FAR)))), "1 a:10-200 b:0-" + "9" * 70)

    def test_trips_are_written_by_names_and_not_in_the_order_of_the_line(self):
        self.assertEqual(str(Line(3, (("ann", 4, 6), ("bob", 2, 5)))), "3 ann:4-6 bob:2-5")

    def test_shown(self):
        self.assertEqual(repr(Line(7)), "Line('7')")
        self.assertEqual(repr(Line(2, TRIPS)), "Line('2 ann:0-3 bob:2-5 carl:3-4')")
        self.assertEqual(f"{[Line(2, (ANN,))]}", "[Line('2 ann:0-3')]")


class SmallLinesTest(ErrorCase):

    def test_all_lines_of_few_trips_on_few_stations(self):
        spans = [(start, end) for start in range(4) for end in range(start + 1, 5)]
        for many in range(4):
            for chosen in itertools.product(spans, repeat=many):
                trips = tuple((name, *span) for name, span in zip("abc", chosen))
                self.check(Line(2, trips), trips)

    def check(self, line, trips):
        loads = [sum(station in range(start, end) for _, start, end in trips) for station in range(6)]
        walked = [trip for station in range(6) for trip in trips if trip[1] == station]
        self.assertEqual([line.load(station) for station in range(6)], loads)
        self.assertEqual(line.peak, max(loads))
        self.assertEqual(list(line.walk()), walked)
        self.assertEqual(line.order, tuple(name for name, _, _ in walked))
        self.assertEqual((line.trips, len(line)), (trips, len(trips)))


class DeepTest(ErrorCase):

    def test_deeply_nested_values_at_each_place(self):
        for thing in DEEP:
            self.assert_error(InvalidSeats, {"value": thing}, Line, thing, thing)
            self.assert_error(InvalidStation, {"station": thing}, Line(2).load, thing)
        for thing in deep(12):
            self.assert_error(InvalidTrips, {"index": 1}, Line, 2, (ANN, thing))


if __name__ == "__main__":
    unittest.main()
