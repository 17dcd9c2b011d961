"""Booking one more trip."""

from seatchains.chains import route
from seatchains.checks import check_line, check_plan
from seatchains.errors import Full
from seatchains.lines import check_stations
from seatchains.meeting import plan_of, seats_left
from seatchains.plans import least_plan


def full_stretch(line, start, end):
    """Return the least full stretch between the two stations, or None."""
    check_line(line)
    check_stations(start, end)
    # Behind the start, the load grows only where a trip starts.
    starts = [row[1] for row in line.walk() if start < row[1] < end]
    for station in [start] + starts:
        if line.load(station) >= line.capacity:
            return station
    return None


def book(line, plan, name, start, end):
    """Return the line with one more trip, exchanges of the old line, and the plan of the new line after them."""
    check_line(line)
    check_plan(line, plan)
    later = line.added(name, start, end)
    station = full_stretch(line, start, end)
    if station is not None:
        raise Full(station)
    trip = (name, start, end)
    seats = dict(plan)
    seated = [(row, seats[row[0]]) for row in line.trips]
    left = seats_left(line.capacity, trip, seated)
    if left:
        return (later, (), plan_of(seated + [(trip, left[0])]))
    goal = least_plan(later)
    others = tuple([pair for pair in goal if pair[0] != name])
    return (later, route(line, plan, others), goal)
