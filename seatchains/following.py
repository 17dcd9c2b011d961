"""Which trip follows which one in its seat."""

from seatchains.checks import check_line, check_plan
from seatchains.errors import Overfull
from seatchains.plans import overfull


def follows(line, plan):
    """Return the pairs of a trip and the next one in its seat."""
    check_line(line)
    check_plan(line, plan)
    seats = dict(plan)
    latest = {}
    pairs = []
    for name, start, end in line.walk():
        seat = seats[name]
        if seat in latest:
            pairs.append((latest[seat], name))
        latest[seat] = name
    return tuple(sorted(pairs))


def always_follows(line):
    """Return the pairs of trips that follow one another so in every plan."""
    station = overfull(line)
    if station is not None:
        raise Overfull(station)
    pairs = [(trip[0], later[0]) for trip in line.trips for later in line.trips if must_follow(line, trip, later)]
    return tuple(pairs)


def must_follow(line, trip, later):
    """Return whether the later trip is the next one in the seat of the trip in every plan."""
    end, start = trip[2], later[1]
    if start < end or line.load(end - 1) < line.capacity:
        return False
    # Behind a full stretch one seat alone is free then, and the later trip is the first to take one.
    others = [row for row in line.trips if row[0] not in (trip[0], later[0])]
    return not any([end <= row[1] <= start or end <= row[2] <= start for row in others])
