"""Lines: a number of seats, and trips along the stations."""

from seatchains.errors import (
    InvalidName,
    InvalidSeats,
    InvalidStation,
    InvalidText,
    InvalidTrips,
    NameTaken,
    TooManyTrips,
)
from seatchains.kinds import is_integer, is_later, is_station, is_trip, is_trip_name, number_written
from seatchains.limits import MAX_SEATS, MAX_TRIPS


class Line:
    """A line with its seats and trips. It never changes."""

    # The same as in limits; a class value must be written out.
    MOST_SEATS = 20
    MOST_TRIPS = 24

    def __init__(self, seats, trips=()):
        check_seats(seats)
        if not isinstance(trips, tuple):
            raise InvalidTrips(None)
        valid = valid_beginning(trips)
        if valid < len(trips):
            raise InvalidTrips(valid)
        self.seat_count = seats
        self.rows = trips
        self.queue = tuple(sorted(trips, key=lambda row: (row[1], row[0])))

    def __eq__(self, other):
        return isinstance(other, Line) and self.seat_count == other.seat_count and self.rows == other.rows

    def __len__(self):
        return len(self.rows)

    def __str__(self):
        words = [f"{name}:{start}-{end}" for name, start, end in self.rows]
        return " ".join([str(self.seat_count), *words])

    def __repr__(self):
        return f"Line('{str(self)}')"

    @staticmethod
    def is_name(thing):
        """Return whether any value is a name."""
        return is_trip_name(thing)

    @classmethod
    def read(cls, text):
        """Return the line with this text."""
        if not isinstance(text, str):
            raise InvalidText(text)
        words = text.split(" ")
        trips = tuple([trip_written(word) for word in words[1:]])
        try:
            return cls(number_written(words[0]), trips)
        except (InvalidSeats, InvalidTrips):
            raise InvalidText(text) from None

    @classmethod
    def made(cls, seats, *trips):
        """Return the line with these trips, in any order."""
        check_seats(seats)
        # Only trips have names to sort by.
        for at, thing in enumerate(trips):
            if not is_trip(thing):
                raise InvalidTrips(at)
        return cls(seats, tuple(sorted(trips, key=lambda row: row[0])))

    @property
    def capacity(self):
        """The number of seats."""
        return self.seat_count

    @property
    def trips(self):
        """The trips, by their names."""
        return self.rows

    @property
    def order(self):
        """The names, in the order of the line."""
        return tuple([row[0] for row in self.queue])

    @property
    def peak(self):
        """The greatest load."""
        # The load grows only where a trip starts.
        return max([load_of(self.rows, row[1]) for row in self.rows], default=0)

    def load(self, station):
        """Return the load of the stretch."""
        if not is_station(station):
            raise InvalidStation(station)
        return load_of(self.rows, station)

    def walk(self):
        """Yield the trips in the order of the line."""
        for row in self.queue:
            yield row

    def trip(self, name):
        """Return the trip with this name."""
        row = trip_named(self.rows, name)
        if row is None:
            raise InvalidName(name)
        return row

    def added(self, name, start, end):
        """Return the line with one more trip."""
        if not is_trip_name(name):
            raise InvalidName(name)
        check_stations(start, end)
        if trip_named(self.rows, name) is not None:
            raise NameTaken(name)
        if len(self.rows) == MAX_TRIPS:
            raise TooManyTrips(MAX_TRIPS + 1)
        return Line(self.seat_count, tuple(sorted([*self.rows, (name, start, end)])))

    def without(self, *names):
        """Return the line without these trips."""
        for name in names:
            if trip_named(self.rows, name) is None:
                raise InvalidName(name)
        return Line(self.seat_count, tuple([row for row in self.rows if row[0] not in names]))


def check_seats(seats):
    """Raise an error if the value is not a number of seats."""
    if not is_integer(seats) or not 1 <= seats <= MAX_SEATS:
        raise InvalidSeats(seats)


def check_stations(start, end):
    """Raise an error if the values are not two stations, the second one behind the first."""
    if not is_station(start):
        raise InvalidStation(start)
    if not is_later(end, start):
        raise InvalidStation(end)


def valid_beginning(trips):
    """Return how many trips, from the first one on, can stand together in a line."""
    before = ""
    for at, thing in enumerate(trips):
        if at == MAX_TRIPS or not is_trip(thing) or thing[0] <= before:
            return at
        before = thing[0]
    return len(trips)


def load_of(trips, station):
    """Return how many of the trips pass the stretch."""
    return len([name for name, start, end in trips if start <= station < end])


def trip_named(trips, name):
    """Return the trip with this name, which may be any value, or None if no trip has it."""
    # A value of another kind may claim to equal a text.
    if not isinstance(name, str):
        return None
    for row in trips:
        if row[0] == name:
            return row
    return None


def trip_written(word):
    """Return the triple that is written so, with None for what is no number."""
    name, colon, stations = word.partition(":")
    start, dash, end = stations.partition("-")
    return (name, number_written(start), number_written(end))
