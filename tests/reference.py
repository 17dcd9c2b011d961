"""What the document says, done in the plainest way, to compare the program with."""

import itertools
import random
import string

from seatchains.lines import Line

LETTERS = string.ascii_lowercase


def meet(trip, other):
    return max(trip[1], other[1]) < min(trip[2], other[2])


def in_order(line):
    """The trips in the order of the line."""
    return sorted(line.trips, key=lambda trip: (trip[1], trip[0]))


def load(line, station):
    return sum(start <= station < end for _, start, end in line.trips)


def least_overfull(line):
    """Goes through stations one by one: for lines with few stations only."""
    last = max((end for _, _, end in line.trips), default=0)
    return next((station for station in range(last) if load(line, station) > line.capacity), None)


def is_right(line, plan):
    """Whether pairs in the right form are a plan."""
    seats = dict(plan)
    return all(seats[one[0]] != seats[two[0]] for one, two in itertools.combinations(line.trips, 2) if meet(one, two))


def every_plan(line):
    """All plans, in no order that matters."""
    names = [name for name, _, _ in line.trips]
    tried = itertools.product(range(1, line.capacity + 1), repeat=len(names))
    plans = [tuple(zip(names, seats)) for seats in tried]
    return [plan for plan in plans if is_right(line, plan)]


def digits(line, plan):
    """For each trip, in the order of the line, how many smaller seats it could have chosen."""
    seats = dict(plan)
    ordered = in_order(line)
    found = []
    for at, trip in enumerate(ordered):
        taken = [seats[other[0]] for other in ordered[:at] if meet(trip, other)]
        found.append(len([seat for seat in range(1, seats[trip[0]]) if seat not in taken]))
    return found


def plans_in_order(line):
    return sorted(every_plan(line), key=lambda plan: digits(line, plan))


def chain_of(line, plan, name, seat):
    """The set of the names in the chain."""
    seats = dict(plan)
    pair = {seats[name], seat}
    trips = [trip for trip in line.trips if seats[trip[0]] in pair]
    found = {name}
    while True:
        more = {one[0] for one in trips for two in trips if two[0] in found and meet(one, two)} | found
        if more == found:
            return found
        found = more


def after(line, plan, name, seat):
    """The plan after the exchange."""
    own = dict(plan)[name]
    members = chain_of(line, plan, name, seat)
    return tuple((each, own + seat - worn if each in members else worn) for each, worn in plan)


def every_exchange(line, plan):
    return [(name, seat) for name, own in plan for seat in range(1, line.capacity + 1) if seat != own]


def distances(line, plan):
    """For each plan, how many exchanges lead to it from this one at the least."""
    found = {plan: 0}
    level = [plan]
    while level:
        below = []
        for present in level:
            for exchange in every_exchange(line, present):
                later = after(line, present, *exchange)
                if later not in found:
                    found[later] = found[present] + 1
                    below.append(later)
        level = below
    return found


def stops_of(line):
    return sorted({station for _, start, end in line.trips for station in (start, end)})


def ways_out(line, fixed, stops):
    """The number of ways out of a set of stops."""
    everything = stops_of(line)
    names = [name for name, _ in fixed]
    ways = len([name for name, start, end in line.trips if name not in names and start in stops and end not in stops])
    for stop, later in zip(everything, everything[1:]):
        if stop in stops and later not in stops:
            ways += line.capacity - load(line, stop)
    return ways


def starts_outside(line, fixed, stops):
    """How many fixed trips start outside of a set of stops."""
    names = [name for name, _ in fixed]
    return len([name for name, start, _ in line.trips if name in names and start not in stops])


def is_obstacle(line, fixed, obstacle):
    """Whether what is said of a line with stations near to each other is true and in the right form."""
    if type(obstacle) is not tuple or len(obstacle) != 2:
        return False
    word, thing = obstacle
    if word == "overfull":
        return thing is not None and type(thing) is int and thing == least_overfull(line)
    stops = stops_of(line)
    if word != "cut" or type(thing) is not tuple or least_overfull(line) is not None:
        return False
    if list(thing) != sorted(set(thing)) or not set(thing) <= set(stops) or stops[0] not in thing:
        return False
    return ways_out(line, fixed, thing) < starts_outside(line, fixed, thing)


def every_fixed(line):
    """All fixed seats of a line."""
    names = [name for name, _, _ in line.trips]
    for many in range(len(names) + 1):
        for chosen in itertools.combinations(names, many):
            for seats in itertools.permutations(range(1, line.capacity + 1), many):
                yield tuple(zip(chosen, seats))


def small_lines(seats, most, last=3):
    """All lines with so many seats, at most so many trips and stations up to the last one."""
    spans = [(start, end) for start in range(last) for end in range(start + 1, last + 1)]
    for many in range(most + 1):
        for chosen in itertools.product(spans, repeat=many):
            yield Line(seats, tuple((name, *span) for name, span in zip(LETTERS, chosen)))


def some_lines(seed, many, seats, trips, last):
    """Lines taken at random, the same ones each time, with at most so many seats and trips."""
    rng = random.Random(seed)
    for _ in range(many):
        rows = []
        for name in LETTERS[:rng.randint(0, trips)]:
            start, end = sorted(rng.sample(range(last + 1), 2))
            rows.append((name, start, end))
        yield Line(rng.randint(1, seats), tuple(rows))


def crowded_line(rng, seats, trips, longest, gap=0):
    """A line without overfull stretches, most of them full, and a plan of it: each seat in turn gets a trip."""
    names = rng.sample(LETTERS, trips)
    ends = [0] * seats
    rows, plan = [], []
    for at, name in enumerate(names):
        seat = at if at < seats else ends.index(min(ends))
        start = ends[seat] + rng.randint(0, gap)
        ends[seat] = start + rng.randint(1, longest)
        rows.append((name, start, ends[seat]))
        plan.append((name, seat + 1))
    return Line(seats, tuple(sorted(rows))), tuple(sorted(plan))


def stretched(line, places):
    """The line with its stations moved to other places, which ascend."""
    return Line(line.capacity, tuple((name, places[start], places[end]) for name, start, end in line.trips))


def far_places(rng, many, digits=70):
    """Stations of up to so many digits, ascending."""
    places = {0, 10 ** digits - 1}
    while len(places) < many:
        places.add(rng.randrange(10 ** rng.randint(1, digits)))
    return sorted(places)


def is_free(line, plan, seat, start, end):
    """Whether no trip with the seat passes a stretch from the one station to the other."""
    seats = dict(plan)
    return not any(seats[trip[0]] == seat and meet(trip, ("", start, end)) for trip in line.trips)


def every_shift(line, plan):
    return [(name, seat) for name, seat in every_exchange(line, plan) if chain_of(line, plan, name, seat) == {name}]


def shift_distances(line, plan):
    """For each plan to which shifts lead, how many lead to it from this one at the least."""
    found = {plan: 0}
    level = [plan]
    while level:
        below = []
        for present in level:
            for name, seat in every_shift(line, present):
                later = tuple((each, seat if each == name else worn) for each, worn in present)
                if later not in found:
                    found[later] = found[present] + 1
                    below.append(later)
        level = below
    return found


def fewest_triples(line, plan, start, end):
    """How few triples an itinerary has, or None: station by station, for stations near to each other."""
    fewest = {start: 0}
    for station in range(start, end):
        if station in fewest:
            for seat in range(1, line.capacity + 1):
                for until in range(station + 1, end + 1):
                    if is_free(line, plan, seat, station, until):
                        fewest[until] = min(fewest.get(until, 999), fewest[station] + 1)
    return fewest.get(end)


def is_itinerary(line, plan, start, end, triples):
    """Whether a tuple of triples of integers is an itinerary."""
    stations = [start, *[until for _, _, until in triples]]
    joined = all(since == before for (_, since, _), before in zip(triples, stations)) and stations[-1] == end
    forward = all(since < until for _, since, until in triples)
    changes = all(one[0] != two[0] for one, two in zip(triples, triples[1:]))
    return joined and forward and changes and all(
        1 <= seat <= line.capacity and is_free(line, plan, seat, since, until) for seat, since, until in triples)


def are_blocks(line, plan, start, end, pairs):
    """Whether pairs of integers are blocks of the way of a passenger."""
    if list(pairs) != sorted(set(pairs)) or any(one[1] > two[0] + 1 for one, two in zip(pairs, pairs[1:])):
        return False
    return all(start <= first < last <= end for first, last in pairs) and not any(
        is_free(line, plan, seat, *pair) for pair in pairs for seat in range(1, line.capacity + 1))


def followers(line, plan):
    """The set of the pairs that follow one another by the plan."""
    seats = dict(plan)
    pairs = set()
    for name, _, end in line.trips:
        later = [(row[1], row[0]) for row in line.trips if seats[row[0]] == seats[name] and row[1] >= end]
        if later:
            pairs.add((name, min(later)[1]))
    return pairs
