"""Plans that keep fixed seats, or what stands in their way.

If a plan keeps the fixed seats, then each of these seats goes a way from the first stop to the start of its fixed
trip: through trips that are not fixed, and through stretches on which it is free. No two of these ways lead through
the same trip, and no more of them are free on a stretch than there are seats to spare. Whenever there are such ways,
their trips can have the fixed seats. The other trips then find seats one after the other, because on each stretch
there are no more of them than seats that are not on such a way or in a fixed trip behind it.
"""

from seatchains.checks import check_line, names_trip_and_seat
from seatchains.errors import InvalidFixed
from seatchains.flows import one_more, reached, ways_of
from seatchains.meeting import plan_of, seats_left
from seatchains.plans import least_plan, overfull


def fixed_plan(line, fixed):
    """Return a plan that keeps the fixed seats, or None."""
    return plan_or_obstacle(line, fixed)[0]


def fixed_obstacle(line, fixed):
    """Return what prevents a plan that keeps the fixed seats, or None."""
    return plan_or_obstacle(line, fixed)[1]


def plan_or_obstacle(line, fixed):
    """Return a plan that keeps the fixed seats and None, or None and an obstacle."""
    check_line(line)
    check_fixed(line, fixed)
    station = overfull(line)
    if station is not None:
        return (None, ("overfull", station))
    if not fixed:
        return (least_plan(line), None)
    stops = stops_of(line)
    trips = [row for row in line.trips if row[0] not in dict(fixed)]
    arcs = arcs_of(line, stops, trips)
    goals = [line.trip(name)[1] for name, seat in fixed]
    flow = [0] * len(arcs)
    for goal in goals:
        came = reached(arcs, flow, stops[0])
        if goal not in came:
            return (None, ("cut", tuple(sorted(came))))
        flow = one_more(flow, came, goal)
    return (plan_along(line, fixed, trips, ways_of(arcs, flow, stops[0], goals)), None)


def check_fixed(line, fixed):
    """Raise an error if the value is not fixed seats of the line."""
    if not isinstance(fixed, tuple):
        raise InvalidFixed(None)
    before = ""
    seats = []
    for at, thing in enumerate(fixed):
        if not names_trip_and_seat(line, thing) or thing[0] <= before or thing[1] in seats:
            raise InvalidFixed(at)
        before = thing[0]
        seats.append(thing[1])


def stops_of(line):
    """Return the ascending list of the stops."""
    return sorted(set([row[1] for row in line.trips] + [row[2] for row in line.trips]))


def arcs_of(line, stops, trips):
    """Return the arcs along which a seat gets from stop to stop: first those of the trips, then those of free seats."""
    arcs = [(start, end, 1) for name, start, end in trips]
    for stop, later in zip(stops, stops[1:]):
        arcs.append((stop, later, line.capacity - line.load(stop)))
    return arcs


def plan_along(line, fixed, trips, ways):
    """Return a plan in which the trips on the way to each fixed trip have its seat."""
    seats = dict(fixed)
    taken = []
    for (name, seat), way in zip(fixed, ways):
        # The whole way from station 0 on belongs to this seat.
        taken.append(((name, 0, line.trip(name)[2]), seat))
        for at in way:
            if at < len(trips):
                seats[trips[at][0]] = seat
    for trip in line.walk():
        if trip[0] not in seats:
            seat = seats_left(line.capacity, trip, taken)[0]
            seats[trip[0]] = seat
            taken.append((trip, seat))
    return plan_of([(row, seats[row[0]]) for row in line.trips])
