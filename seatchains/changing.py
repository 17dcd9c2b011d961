"""Passengers who may change seats on the way."""

from seatchains.checks import check_line, check_plan
from seatchains.lines import check_stations


def itinerary(line, plan, start, end):
    """Return an itinerary with the fewest triples, or None if some stretch has no free seat."""
    check_line(line)
    check_plan(line, plan)
    check_stations(start, end)
    triples = []
    station = start
    # Whoever keeps a seat as long as possible is never behind somebody who changes elsewhere.
    while station < end:
        seat, until = longest_free(line, plan, station, end)
        if until == station:
            return None
        triples.append((seat, station, until))
        station = until
    return tuple(triples)


def blocks(line, plan, start, end):
    """Return for each change of the itinerary two stations between which no seat is free, or None."""
    triples = itinerary(line, plan, start, end)
    if triples is None:
        return None
    # No seat is free longer than that of a triple, so each one is taken somewhere up to the stretch where it ends.
    return tuple([(first, last + 1) for seat, first, last in triples[:-1]])


def longest_free(line, plan, station, end):
    """Return the seat that is free longest from the station on, and the station up to which it is."""
    best = 1
    farthest = station
    for seat in range(1, line.capacity + 1):
        until = free_until(line, plan, seat, station, end)
        if until > farthest:
            best = seat
            farthest = until
    return (best, farthest)


def free_until(line, plan, seat, station, end):
    """Return the station up to which the seat is free from the station on, but not one behind the end."""
    seats = dict(plan)
    starts = [row[1] for row in line.trips if seats[row[0]] == seat and row[2] > station]
    return max(station, min([end, *starts]))
