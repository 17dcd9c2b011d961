"""Whether values are lines and plans of them, and the errors if not."""

from seatchains.errors import InvalidPlan, NotALine
from seatchains.kinds import is_pair, is_seat
from seatchains.lines import Line, trip_named
from seatchains.meeting import seats_left


def check_line(line):
    """Raise an error if the value is not a line."""
    if not isinstance(line, Line):
        raise NotALine(line)


def check_plan(line, plan):
    """Raise an error if the value is not a plan of the line."""
    if not isinstance(plan, tuple):
        raise InvalidPlan(None)
    valid = valid_pairs(line, plan)
    # Behind the valid pairs there is a wrong one, one is missing, or one is too many.
    if valid < len(plan) or valid < len(line.trips):
        raise InvalidPlan(valid)


def valid_pairs(line, things):
    """Return how many values of the tuple, from the first one on, can stand together in a plan of the line."""
    seated = []
    for trip, thing in zip(line.trips, things):
        if not names_trip_and_seat(line, thing) or thing[0] != trip[0]:
            return len(seated)
        if thing[1] not in seats_left(line.capacity, trip, seated):
            return len(seated)
        seated.append((trip, thing[1]))
    return len(seated)


def names_trip_and_seat(line, thing):
    """Return whether any value is a pair of the name of a trip and a seat of the line."""
    if not is_pair(thing):
        return False
    name, seat = thing
    return trip_named(line.trips, name) is not None and is_seat(seat, line.capacity)
