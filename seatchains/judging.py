"""What the checker needs to know of values, trips and seats.

Only the checker uses this, and nothing of the rest of the program: what is wrong there is not repeated here. The seats
of a plan are the list of the seats of the trips, in the order of the trips.
"""

from seatchains.limits import MAX_SEATS, MAX_TRIPS

LETTERS = "abcdefghijklmnopqrstuvwxyz"


def is_whole(thing, least):
    """Return whether any value is an integer, and not less than the least one."""
    # Python counts True and False among the ints.
    return isinstance(thing, int) and not isinstance(thing, bool) and thing >= least


def is_tuple_of(thing, size):
    """Return whether any value is a tuple with so many elements."""
    return isinstance(thing, tuple) and len(thing) == size


def are_stations(start, end):
    """Return whether any values are two stations, the second one behind the first."""
    return is_whole(start, 0) and is_whole(end, 0) and start < end


def is_booked(thing):
    """Return whether any value is a trip."""
    if not is_tuple_of(thing, 3) or not isinstance(thing[0], str) or not 1 <= len(thing[0]) <= 8:
        return False
    return all([letter in LETTERS for letter in thing[0]]) and are_stations(thing[1], thing[2])


def are_of_a_line(seats, trips):
    """Return whether any values are the number of seats and the trips of a line."""
    if not is_whole(seats, 1) or seats > MAX_SEATS:
        return False
    if not isinstance(trips, tuple) or len(trips) > MAX_TRIPS or not all([is_booked(trip) for trip in trips]):
        return False
    return all([one[0] < two[0] for one, two in zip(trips, trips[1:])])


def is_one_of(thing, seats):
    """Return whether any value is one of so many seats."""
    return is_whole(thing, 1) and thing <= seats


def place_of(seats, trips, thing):
    """Return the place of the trip whose name stands in any value, a pair of it and a seat; None if it is no such."""
    if not is_tuple_of(thing, 2) or not isinstance(thing[0], str) or not is_one_of(thing[1], seats):
        return None
    for at, trip in enumerate(trips):
        if trip[0] == thing[0]:
            return at
    return None


def seats_given(seats, trips, plan):
    """Return the seats of the plan, or None if the value is not a plan."""
    if not is_tuple_of(plan, len(trips)):
        return None
    given = []
    for at, pair in enumerate(plan):
        if place_of(seats, trips, pair) != at or taken_before(trips, given, at, pair[1]):
            return None
        given.append(pair[1])
    return given


def taken_before(trips, given, at, seat):
    """Return whether one of the trips before the one at the place has the seat and meets it."""
    return any([given[other] == seat and overlap(trips[other], trips[at]) for other in range(at)])


def overlap(trip, other):
    """Return whether the trips pass a common stretch."""
    return trip[1] < other[2] and other[1] < trip[2]


def many_on(trips, stretch):
    """Return how many of the trips pass the stretch."""
    return len([trip for trip in trips if trip[1] <= stretch < trip[2]])


def is_unoccupied(trips, given, seat, start, end):
    """Return whether no trip with the seat passes a stretch from the one station to the other."""
    way = ("", start, end)
    return not any([worn == seat and overlap(trip, way) for trip, worn in zip(trips, given)])


def none_overfull(seats, trips):
    """Return whether no stretch has more trips than there are seats."""
    # There are more trips on a stretch than before only where one starts.
    return all([many_on(trips, trip[1]) <= seats for trip in trips])


def swapped(trips, given, place, seat):
    """Return the seats after the trip at the place got the seat, and its chain the other one of the two."""
    own = given[place]
    chain = [place]
    at = 0
    while at < len(chain):
        for other in range(len(trips)):
            if other not in chain and given[other] in (own, seat) and overlap(trips[chain[at]], trips[other]):
                chain.append(other)
        at += 1
    return [own + seat - worn if other in chain else worn for other, worn in enumerate(given)]
