"""Whether claims about lines are true, by their certificates; independent of the rest of the program."""

from seatchains.judging import (
    are_of_a_line,
    are_stations,
    is_one_of,
    is_tuple_of,
    is_unoccupied,
    is_whole,
    many_on,
    none_overfull,
    overlap,
    place_of,
    seats_given,
    swapped,
)


def plan_holds(certificate, seats, trips, plan):
    """Return whether the value is a plan."""
    return certificate is None and seats_given(seats, trips, plan) is not None


def no_plan_holds(certificate, seats, trips):
    """Return whether the certificate is an overfull stretch, so that there is no plan."""
    return is_overfull(seats, trips, certificate)


def is_overfull(seats, trips, stretch):
    """Return whether any value is an overfull stretch."""
    return is_whole(stretch, 0) and many_on(trips, stretch) > seats


def route_holds(certificate, seats, trips, plan, goal):
    """Return whether few exchanges, the certificate, lead from the plan to the goal."""
    given = seats_given(seats, trips, plan)
    wanted = seats_given(seats, trips, goal)
    if given is None or wanted is None or not isinstance(certificate, tuple) or len(certificate) > len(trips):
        return False
    for pair in certificate:
        place = place_of(seats, trips, pair)
        if place is None or given[place] == pair[1]:
            return False
        given = swapped(trips, given, place, pair[1])
    return given == wanted


def fixed_places(seats, trips, fixed):
    """Return the list of the places of the fixed trips, or None if the value is not fixed seats."""
    if not isinstance(fixed, tuple):
        return None
    places = []
    taken = []
    for pair in fixed:
        place = place_of(seats, trips, pair)
        # The trips stand in the order of their names.
        if place is None or (places and place <= places[-1]) or pair[1] in taken:
            return None
        places.append(place)
        taken.append(pair[1])
    return places


def fixed_holds(certificate, seats, trips, fixed):
    """Return whether the certificate is a plan that keeps the fixed seats."""
    places = fixed_places(seats, trips, fixed)
    given = seats_given(seats, trips, certificate)
    if places is None or given is None:
        return False
    return all([given[place] == pair[1] for place, pair in zip(places, fixed)])


def not_fixed_holds(certificate, seats, trips, fixed):
    """Return whether the certificate is an obstacle, so that no plan keeps the fixed seats."""
    places = fixed_places(seats, trips, fixed)
    if places is None or not is_tuple_of(certificate, 2) or not isinstance(certificate[0], str):
        return False
    word, thing = certificate
    if word == "overfull":
        return is_overfull(seats, trips, thing)
    return word == "cut" and none_overfull(seats, trips) and is_cut(seats, trips, places, thing)


def is_cut(seats, trips, places, thing):
    """Return whether any value is stops with fewer ways out than fixed trips, those at the places, start outside."""
    stops = sorted(set([trip[1] for trip in trips] + [trip[2] for trip in trips]))
    if not isinstance(thing, tuple) or not all([is_whole(stop, 0) and stop in stops for stop in thing]):
        return False
    if thing[:1] != tuple(stops[:1]) or not all([one < two for one, two in zip(thing, thing[1:])]):
        return False
    outside = [at for at in places if trips[at][1] not in thing]
    free = [trip for at, trip in enumerate(trips) if at not in places]
    ways = len([trip for trip in free if trip[1] in thing and trip[2] not in thing])
    for stop, later in zip(stops, stops[1:]):
        if stop in thing and later not in thing:
            ways += seats - many_on(trips, stop)
    return ways < len(outside)


def number_holds(certificate, seats, trips, plan, number):
    """Return whether the plan has the number."""
    given = seats_given(seats, trips, plan)
    if certificate is not None or given is None or not is_whole(number, 0):
        return False
    return number == number_worked_out(seats, trips, given)


def number_worked_out(seats, trips, given):
    """Return the number of the plan: for each trip, how many smaller seats the earlier ones leave to it."""
    ordered = sorted([(trip[1], trip[0], at) for at, trip in enumerate(trips)])
    earlier = []
    number = 0
    for start, name, at in ordered:
        taken = [given[other] for other in earlier if overlap(trips[other], trips[at])]
        left = [seat for seat in range(1, seats + 1) if seat not in taken]
        number = number * len(left) + left.index(given[at])
        earlier.append(at)
    return number


def changes_holds(certificate, seats, trips, plan, start, end, changes):
    """Return whether the certificate is a way with so many changes, and as many reasons for a change."""
    given = seats_given(seats, trips, plan)
    if given is None or not are_stations(start, end) or not is_whole(changes, 0) or not is_tuple_of(certificate, 2):
        return False
    triples, pairs = certificate
    if not is_tuple_of(triples, changes + 1) or not is_tuple_of(pairs, changes):
        return False
    if not is_way(seats, trips, given, start, triples) or triples[-1][2] != end:
        return False
    if not all([is_blocked(seats, trips, given, start, end, pair) for pair in pairs]):
        return False
    return all([one < two and one[1] <= two[0] + 1 for one, two in zip(pairs, pairs[1:])])


def is_way(seats, trips, given, start, triples):
    """Return whether the values are triples of an itinerary that begins at the start."""
    station = start
    before = None
    for triple in triples:
        if not is_tuple_of(triple, 3) or not is_one_of(triple[0], seats) or not are_stations(triple[1], triple[2]):
            return False
        seat, since, until = triple
        if since != station or seat == before or not is_unoccupied(trips, given, seat, since, until):
            return False
        station = until
        before = seat
    return True


def is_blocked(seats, trips, given, start, end, pair):
    """Return whether any value is two stations on the way between which no seat is free."""
    if not is_tuple_of(pair, 2) or not are_stations(pair[0], pair[1]) or pair[0] < start or pair[1] > end:
        return False
    return not any([is_unoccupied(trips, given, seat, pair[0], pair[1]) for seat in range(1, seats + 1)])


def no_seat_holds(certificate, seats, trips, plan, start, end):
    """Return whether the certificate is a stretch of the way on which no seat is free."""
    if seats_given(seats, trips, plan) is None or not are_stations(start, end) or not is_whole(certificate, start):
        return False
    return certificate < end and many_on(trips, certificate) == seats


# How many values stand behind the trips in a claim that begins with this word, and which function judges it.
SIZES = {
    "plan": 1,
    "no plan": 0,
    "route": 2,
    "fixed": 1,
    "not fixed": 1,
    "number": 2,
    "changes": 4,
    "no seat": 3,
}
JUDGES = {
    "plan": plan_holds,
    "no plan": no_plan_holds,
    "route": route_holds,
    "fixed": fixed_holds,
    "not fixed": not_fixed_holds,
    "number": number_holds,
    "changes": changes_holds,
    "no seat": no_seat_holds,
}


def accepts(claim, certificate):
    """Return whether the claim has one of the forms, and all holds that is said about the form."""
    if not isinstance(claim, tuple) or len(claim) < 3 or not isinstance(claim[0], str):
        return False
    seats = claim[1]
    trips = claim[2]
    rest = claim[3:]
    # Any text can be compared with these words, but not any text can be looked up.
    words = [word for word in SIZES if word == claim[0]]
    if not words or len(rest) != SIZES[words[0]] or not are_of_a_line(seats, trips):
        return False
    judge = JUDGES[words[0]]
    return judge(certificate, seats, trips, *rest)
