"""Line.made, Line.is_name, trip, added and without."""

import itertools
import string
import unittest

from seatchains.errors import InvalidName, InvalidSeats, InvalidStation, InvalidTrips, NameTaken, TooManyTrips
from seatchains.lines import Line
from tests.samples import FAR, NAMES_24, NOT_INTEGERS, NOT_TEXTS, SIGNS, TRIPS_24, ErrorCase
from tests.test_line import NOT_TRIPS

ANN, BOB, CARL = ("ann", 4, 6), ("bob", 2, 5), ("carl", 3, 4)
TRIPS = (ANN, BOB, CARL)

# Texts that are not names.
NOT_NAMES = ["", " ", "Ann", "aNn", "ANN", "ann ", " ann", "a n", "ann1", "1", "a-b", "a_b", "a.b", "ann\n", "\n",
             "'a'", "abcdefghi", "a" * 24, "ann:4-6", "a:b", "`", "{", "a{", "`a", "@", "["]


class MadeTest(ErrorCase):

    def test_trips_in_any_order(self):
        for trips in itertools.permutations(TRIPS):
            line = Line.made(3, *trips)
            self.assertEqual((line.capacity, line.trips, type(line.trips)), (3, TRIPS, tuple))
            self.assertEqual(line, Line(3, TRIPS))

    def test_few_and_many_trips(self):
        self.assertEqual(Line.made(5), Line(5))
        self.assertEqual(Line.made(seats=5), Line(5))
        self.assertEqual(Line.made(5, ANN), Line(5, (ANN,)))
        self.assertEqual(Line.made(1, *TRIPS_24[::-1]), Line(1, TRIPS_24))
        self.assertEqual(Line(2, TRIPS).made(5, BOB, ANN), Line(5, (ANN, BOB)))

    def test_sorted_by_names_alone(self):
        trips = (("a", 9, 10), ("ab", 0, 1), ("b", 5, 6), ("ba", 3, 4))
        for shuffled in itertools.permutations(trips):
            self.assertEqual(Line.made(1, *shuffled).trips, trips)

    def test_seats(self):
        self.assertEqual([Line.made(1).capacity, Line.made(20, ANN).capacity], [1, 20])
        for seats in [*NOT_INTEGERS, 0, 21, -1, FAR]:
            self.assert_error(InvalidSeats, {"value": seats}, Line.made, seats)
            self.assert_error(InvalidSeats, {"value": seats}, Line.made, seats, BOB, ANN)

    def test_seats_are_checked_before_trips(self):
        self.assert_error(InvalidSeats, {"value": 0}, Line.made, 0, None)
        self.assert_error(InvalidSeats, {"value": True}, Line.made, True, ANN, ANN)
        self.assert_error(InvalidSeats, {"value": 21}, Line.made, 21, *TRIPS_24, ("z", 0, 1))

    def test_index_of_the_first_argument_that_is_no_trip(self):
        for thing in NOT_TRIPS:
            self.assert_error(InvalidTrips, {"index": 0}, Line.made, 2, thing)
            self.assert_error(InvalidTrips, {"index": 0}, Line.made, 2, thing, thing, ANN)
            self.assert_error(InvalidTrips, {"index": 1}, Line.made, 2, CARL, thing, ANN, thing)
            self.assert_error(InvalidTrips, {"index": 3}, Line.made, 2, CARL, BOB, ANN, thing)

    def test_no_trip_ahead_of_names_and_number(self):
        self.assert_error(InvalidTrips, {"index": 2}, Line.made, 2, ANN, ANN, None)
        self.assert_error(InvalidTrips, {"index": 26}, Line.made, 2, *TRIPS_24, ("z", 0, 1), ("y", 0, 1), None)
        self.assert_error(InvalidTrips, {"index": 3}, Line.made, 2, *TRIPS_24[:3], None, *TRIPS_24)

    def test_trips_in_one_tuple_or_list_are_no_trip(self):
        self.assert_error(InvalidTrips, {"index": 0}, Line.made, 2, TRIPS)
        self.assert_error(InvalidTrips, {"index": 0}, Line.made, 2, list(TRIPS))
        self.assert_error(InvalidTrips, {"index": 1}, Line.made, 2, ANN, list(BOB))

    def test_index_among_the_sorted_trips(self):
        self.assert_error(InvalidTrips, {"index": 1}, Line.made, 2, ANN, ANN)
        self.assert_error(InvalidTrips, {"index": 1}, Line.made, 2, ANN, CARL, BOB, ("ann", 0, 1))
        self.assert_error(InvalidTrips, {"index": 3}, Line.made, 2, CARL, ("carl", 0, 1), BOB, ANN)
        self.assert_error(InvalidTrips, {"index": 2}, Line.made, 2, CARL, BOB, CARL, BOB, ANN)
        self.assert_error(InvalidTrips, {"index": 3}, Line.made, 2, *[("carl", 7, 8), ("bob", 7, 8), ANN, CARL])

    def test_too_many(self):
        self.assert_error(InvalidTrips, {"index": 24}, Line.made, 2, ("z", 0, 1), *TRIPS_24)
        self.assert_error(InvalidTrips, {"index": 24}, Line.made, 2, ("aa", 0, 1), *TRIPS_24, ("ab", 0, 1))
        self.assert_error(InvalidTrips, {"index": 1}, Line.made, 2, *TRIPS_24, ("a", 0, 1))
        self.assert_error(InvalidTrips, {"index": 24}, Line.made, 2, *TRIPS_24, ("x", 7, 8))


class IsNameTest(ErrorCase):

    def check(self, thing, worth):
        for found in (Line.is_name(thing), Line(2, TRIPS).is_name(thing), Line(1).is_name(thing=thing)):
            self.assertIs(found, worth)

    def test_names(self):
        for name in ["ann", "abcdefgh", "zzzzzzzz", "none", *string.ascii_lowercase, string.ascii_lowercase[18:]]:
            self.check(name, True)

    def test_lengths(self):
        for many in range(20):
            self.check("a" * many, 1 <= many <= 8)

    def test_texts_that_are_no_names(self):
        for text in NOT_NAMES:
            self.check(text, False)

    def test_each_sign(self):
        for sign in SIGNS:
            worth = sign in tuple(string.ascii_lowercase)
            for text in (sign, "a" + sign, sign + "a", "ab" + sign + "c"):
                self.check(text, worth)

    def test_values_of_any_kind(self):
        for thing in [*NOT_TEXTS, Line(1), ["a"], ("a",), {"a": "a"}, {"a"}, list("ann"), bytearray(b"a")]:
            self.check(thing, False)


class TripTest(ErrorCase):

    def test_each_trip(self):
        line = Line(2, TRIPS)
        self.assertEqual([line.trip("ann"), line.trip("bob"), line.trip(name="carl")], [ANN, BOB, CARL])
        self.assertEqual([Line(1, TRIPS_24).trip(name) for name in NAMES_24], list(TRIPS_24))

    def test_names_of_no_trip(self):
        for line in (Line(2), Line(2, TRIPS)):
            for name in [*NOT_TEXTS, *NOT_NAMES, "zoe", "an", "anna", "carla", "b"]:
                self.assert_error(InvalidName, {"name": name}, line.trip, name)


class AddedTest(ErrorCase):

    def test_one_more_trip(self):
        line = Line(2, (ANN, CARL))
        self.assertEqual(line.added("bob", 2, 5), Line(2, TRIPS))
        self.assertEqual(line.added(name="aa", start=0, end=FAR), Line(2, (("aa", 0, FAR), ANN, CARL)))
        self.assertEqual(line.added("zoe", end=1, start=0), Line(2, (ANN, CARL, ("zoe", 0, 1))))
        self.assertEqual(Line(20).added("a", FAR - 1, FAR), Line(20, (("a", FAR - 1, FAR),)))
        self.assertEqual((line.trips, str(line), line.order), ((ANN, CARL), "2 ann:4-6 carl:3-4", ("carl", "ann")))

    def test_what_the_new_line_tells(self):
        line = Line(2, (ANN, CARL)).added("bob", 2, 5)
        self.assertEqual((line.capacity, line.order, line.peak), (2, ("bob", "carl", "ann"), 2))
        self.assertEqual((line.load(2), len(line)), (1, 3))
        self.assertEqual((type(line), type(line.trips), type(line.trips[1])), (Line, tuple, tuple))

    def test_a_full_stretch_is_no_hindrance(self):
        self.assertEqual(Line(1, (ANN,)).added("bob", 4, 6).peak, 2)

    def test_up_to_24_trips(self):
        line = Line(3)
        for name, start, end in TRIPS_24[::-1]:
            line = line.added(name, start, end)
        self.assertEqual(line, Line(3, TRIPS_24))
        for name in ("y", "z", "aa"):
            self.assert_error(TooManyTrips, {"found": 25}, line.added, name, 0, 1)
        self.assertEqual(len(Line(3, TRIPS_24[1:]).added("a", 0, 1)), 24)

    def test_name(self):
        for line in (Line(2, TRIPS), Line(3, TRIPS_24)):
            for name in [*NOT_TEXTS, *NOT_NAMES]:
                self.assert_error(InvalidName, {"name": name}, line.added, name, 0, 1)

    def test_start(self):
        for start in [*NOT_INTEGERS, -1, -2, -FAR]:
            self.assert_error(InvalidStation, {"station": start}, Line(2, TRIPS).added, "zoe", start, 5)

    def test_end(self):
        for end in [*NOT_INTEGERS, 0, -1, -FAR]:
            self.assert_error(InvalidStation, {"station": end}, Line(2, TRIPS).added, "zoe", 0, end)
        for start, end in ((3, 3), (3, 2), (3, 0), (FAR, FAR), (FAR, FAR - 1), (1, 0), (0, True)):
            self.assert_error(InvalidStation, {"station": end}, Line(2).added, "zoe", start, end)

    def test_name_taken(self):
        for name in ("ann", "bob", "carl"):
            self.assert_error(NameTaken, {"name": name}, Line(2, TRIPS).added, name, 7, 8)
        self.assert_error(NameTaken, {"name": "ann"}, Line(2, TRIPS).added, *ANN)

    def test_order_of_the_errors(self):
        line = Line(3, TRIPS_24)
        self.assert_error(InvalidName, {"name": "A"}, line.added, "A", -1, -2)
        self.assert_error(InvalidName, {"name": None}, line.added, None, None, None)
        self.assert_error(InvalidStation, {"station": -1}, line.added, "a", -1, -2)
        self.assert_error(InvalidStation, {"station": "1"}, line.added, "z", "1", 0)
        self.assert_error(InvalidStation, {"station": True}, line.added, "z", True, 0)
        self.assert_error(InvalidStation, {"station": 4}, line.added, "a", 4, 4)
        self.assert_error(InvalidStation, {"station": 3}, line.added, "z", 4, 3)
        self.assert_error(NameTaken, {"name": "a"}, line.added, "a", 3, 4)
        self.assert_error(TooManyTrips, {"found": 25}, line.added, "z", 3, 4)


class WithoutTest(ErrorCase):

    def test_none_one_several_and_all(self):
        line = Line(2, TRIPS)
        self.assertEqual(line.without(), line)
        self.assertEqual(line.without("bob"), Line(2, (ANN, CARL)))
        self.assertEqual(line.without("carl", "ann"), Line(2, (BOB,)))
        self.assertEqual(line.without("carl", "ann", "bob"), Line(2))
        self.assertEqual(Line(2).without(), Line(2))
        self.assertEqual(line, Line(2, TRIPS))

    def test_a_name_twice(self):
        line = Line(2, TRIPS)
        self.assertEqual(line.without("bob", "bob"), Line(2, (ANN, CARL)))
        self.assertEqual(line.without("bob", "ann", "bob", "bob"), Line(2, (CARL,)))

    def test_each_trip_of_many(self):
        line = Line(7, TRIPS_24)
        for at, name in enumerate(NAMES_24):
            self.assertEqual(line.without(name), Line(7, TRIPS_24[:at] + TRIPS_24[at + 1:]))

    def test_names_of_no_trip(self):
        for thing in [*NOT_TEXTS, *NOT_NAMES, "zoe", "an", "anna"]:
            self.assert_error(InvalidName, {"name": thing}, Line(2, TRIPS).without, thing)
            self.assert_error(InvalidName, {"name": thing}, Line(2, TRIPS).without, "ann", thing)
            self.assert_error(InvalidName, {"name": thing}, Line(2).without, thing, "ann")

    def test_the_first_value_that_is_no_name_of_a_trip(self):
        line = Line(2, TRIPS)
        self.assert_error(InvalidName, {"name": "zoe"}, line.without, "ann", "zoe", "bob", "yan")
        self.assert_error(InvalidName, {"name": ("ann",)}, line.without, "ann", ("ann",), "zoe")
        self.assert_error(InvalidName, {"name": ["ann", "bob"]}, line.without, ["ann", "bob"])
        self.assert_error(InvalidName, {"name": "zoe"}, line.without, "zoe", "zoe")
        self.assertEqual(line, Line(2, TRIPS))


class NeverChangesTest(ErrorCase):

    def test_the_line_that_was_asked_stays_as_it_was(self):
        line = Line(2, TRIPS)
        line.added("zoe", 0, 9)
        line.without("ann", "bob")
        line.made(9, CARL)
        line.read("9 zoe:0-1")
        line.load(3)
        line.trip("ann")
        list(line.walk())
        next(line.walk())
        self.assert_error(NameTaken, {}, line.added, "ann", 0, 1)
        self.assert_error(InvalidName, {}, line.without, "ann", "zoe")
        self.assertEqual((line.capacity, line.trips, line.order, line.peak), (2, TRIPS, ("bob", "carl", "ann"), 2))
        self.assertEqual((str(line), len(line), line), ("2 ann:4-6 bob:2-5 carl:3-4", 3, Line(2, TRIPS)))

    def test_lines_do_not_share_anything_that_changes(self):
        first = Line(2)
        second = first.added("ann", 4, 6)
        third = second.added("bob", 2, 5)
        self.assertEqual([str(first), str(second), str(third), str(Line(2))],
                         ["2", "2 ann:4-6", "2 ann:4-6 bob:2-5", "2"])

    def test_names_in_a_tuple_are_left_alone(self):
        trips = [("carl", 3, 4), ("ann", 4, 6)]
        self.assertEqual(Line.made(2, *trips).trips, (ANN, CARL))
        self.assertEqual(trips, [("carl", 3, 4), ("ann", 4, 6)])


if __name__ == "__main__":
    unittest.main()
