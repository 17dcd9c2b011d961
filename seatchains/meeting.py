"""Which trips meet, and which seats they leave to one another.

Seated trips are a list of pairs of a trip and its seat.
"""


def meet(trip, other):
    """Return whether the trips pass a common stretch."""
    return trip[1] < other[2] and other[1] < trip[2]


def seats_left(seats, trip, seated):
    """Return the ascending list of the seats, of so many, that no seated trip has that meets the trip."""
    taken = [seat for other, seat in seated if meet(trip, other)]
    return [seat for seat in range(1, seats + 1) if seat not in taken]


def plan_of(seated):
    """Return the plan that gives the trips these seats."""
    return tuple(sorted([(trip[0], seat) for trip, seat in seated]))


def neighbours_of(trips):
    """Return, for the name of each trip, the names of the other trips that meet it."""
    neighbours = {}
    for trip in trips:
        neighbours[trip[0]] = [other[0] for other in trips if other[0] != trip[0] and meet(trip, other)]
    return neighbours
