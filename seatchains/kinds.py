"""What counts as an integer, a station, a name and a trip, and how an integer is written."""

LETTERS = "abcdefghijklmnopqrstuvwxyz"
DIGITS = "0123456789"
LONGEST_NAME = 8


def is_integer(thing):
    """Return whether any value is an integer."""
    # Python counts True and False among the ints.
    return isinstance(thing, int) and not isinstance(thing, bool)


def is_station(thing):
    """Return whether any value is a station, or a stretch, which is called by its first station."""
    return is_integer(thing) and thing >= 0


def is_later(thing, start):
    """Return whether any value is a station behind the station `start`."""
    return is_integer(thing) and thing > start


def is_trip_name(thing):
    """Return whether any value is a name."""
    if not isinstance(thing, str) or not 1 <= len(thing) <= LONGEST_NAME:
        return False
    return all([letter in LETTERS for letter in thing])


def is_trip(thing):
    """Return whether any value is a trip."""
    if not isinstance(thing, tuple) or len(thing) != 3:
        return False
    name, start, end = thing
    return is_trip_name(name) and is_station(start) and is_later(end, start)


def number_written(word):
    """Return the integer from 0 on that is written so, or None if none is."""
    if word == "" or not all([digit in DIGITS for digit in word]):
        return None
    if word[0] == "0" and len(word) > 1:
        return None
    return int(word)


def is_seat(thing, seats):
    """Return whether any value is one of so many seats."""
    return is_integer(thing) and 1 <= thing <= seats


def is_pair(thing):
    """Return whether any value is a pair."""
    return isinstance(thing, tuple) and len(thing) == 2
