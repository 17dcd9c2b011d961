"""Chains and exchanges, and ways by exchanges from plan to plan."""

from seatchains.checks import check_line, check_plan, names_trip_and_seat
from seatchains.errors import InvalidExchange, InvalidName, InvalidSeat, TooManyPlans
from seatchains.kinds import is_seat
from seatchains.limits import FEW_PLANS
from seatchains.lines import trip_named
from seatchains.meeting import neighbours_of
from seatchains.plans import count


def chain(line, plan, name, seat):
    """Return the names of the chain of the trip and the seat."""
    check_exchange(line, plan, name, seat)
    return tuple(sorted(linked(neighbours_of(line.trips), dict(plan), name, seat)))


def exchanged(line, plan, name, seat):
    """Return the plan after the exchange."""
    check_exchange(line, plan, name, seat)
    return moved(neighbours_of(line.trips), plan, name, seat)


def is_shift(line, plan, name, seat):
    """Return whether the exchange is a shift."""
    check_exchange(line, plan, name, seat)
    return len(linked(neighbours_of(line.trips), dict(plan), name, seat)) == 1


def route(line, plan, goal):
    """Return at most as many exchanges as there are trips, which lead from the plan to the goal."""
    check_both(line, plan, goal)
    neighbours = neighbours_of(line.trips)
    wanted = dict(goal)
    present = plan
    exchanges = []
    # In this order no chain contains an earlier trip, which has its seat already: in the two seats an earlier trip
    # meets neither the trip nor, because it ends before the trip starts, any later one.
    for name in line.order:
        seat = wanted[name]
        if dict(present)[name] != seat:
            exchanges.append((name, seat))
            present = moved(neighbours, present, name, seat)
    return tuple(exchanges)


def follow(line, plan, exchanges):
    """Return the plan to which the exchanges lead."""
    check_line(line)
    check_plan(line, plan)
    plans = plans_after(line, plan, exchanges)
    return plans[-1] if plans else plan


def steps(line, plan, exchanges):
    """Yield the plan after each exchange."""
    check_line(line)
    check_plan(line, plan)
    # A wrong exchange is an error before the first plan already.
    plans = plans_after(line, plan, exchanges)
    for present in plans:
        yield present


def shortest(line, plan, goal):
    """Return the fewest exchanges that lead from the plan to the goal."""
    check_both(line, plan, goal)
    check_few_plans(line)
    return way_to(searched(line, plan, goal, different_exchanges), goal)


def check_exchange(line, plan, name, seat):
    """Raise an error if the values are not a line, a plan of it and an exchange."""
    check_line(line)
    check_plan(line, plan)
    if trip_named(line.trips, name) is None:
        raise InvalidName(name)
    if not is_seat(seat, line.capacity) or seat == dict(plan)[name]:
        raise InvalidSeat(seat)


def check_both(line, plan, goal):
    """Raise an error if the values are not a line and two plans of it."""
    check_line(line)
    check_plan(line, plan)
    check_plan(line, goal)


def check_few_plans(line):
    """Raise an error if the line has more plans than can be searched."""
    total = count(line)
    if total > FEW_PLANS:
        raise TooManyPlans(total)


def linked(neighbours, seats, name, seat):
    """Return the list of the names in the chain of the trip and the seat; `seats` holds the seat of each trip."""
    pair = (seats[name], seat)
    found = [name]
    at = 0
    while at < len(found):
        present = found[at]
        for other in neighbours[present]:
            if seats[other] in pair and other not in found:
                found.append(other)
        at += 1
    return found


def moved(neighbours, plan, name, seat):
    """Return the plan after the exchange."""
    seats = dict(plan)
    own = seats[name]
    members = linked(neighbours, seats, name, seat)
    for member in members:
        seats[member] = seat if seats[member] == own else own
    return tuple([(member, seats[member]) for member in seats])


def plans_after(line, plan, exchanges):
    """Return the list of the plans after each exchange."""
    if not isinstance(exchanges, tuple):
        raise InvalidExchange(None)
    neighbours = neighbours_of(line.trips)
    present = plan
    plans = []
    for at, thing in enumerate(exchanges):
        if not names_trip_and_seat(line, thing) or thing in present:
            raise InvalidExchange(at)
        name, seat = thing
        present = moved(neighbours, present, name, seat)
        plans.append(present)
    return plans


def searched(line, plan, goal, moves):
    """Return how each plan was reached, the nearest first, until the goal: the plan before it, and the exchange.

    Where the goal is not reached, and if it is None, these are all plans that can be reached. `moves` is a function
    that returns the exchanges to be made from a plan, given the line, the neighbours and the plan.
    """
    neighbours = neighbours_of(line.trips)
    came = {plan: None}
    waiting = [plan]
    at = 0
    while goal not in came and at < len(waiting):
        present = waiting[at]
        exchanges = moves(line, neighbours, present)
        for name, seat in exchanges:
            later = moved(neighbours, present, name, seat)
            if later not in came:
                came[later] = (present, (name, seat))
                waiting.append(later)
        at += 1
    return came


def way_to(came, goal):
    """Return the exchanges by which a search came to the plan."""
    exchanges = []
    step = came[goal]
    while step is not None:
        before, exchange = step
        exchanges.append(exchange)
        step = came[before]
    return tuple(exchanges[::-1])


def different_exchanges(line, neighbours, plan):
    """Return the list of exchanges that lead from the plan to different plans."""
    seats = dict(plan)
    seen = set()
    exchanges = []
    for name, own in plan:
        for seat in range(1, line.capacity + 1):
            if seat == own or (name, seat) in seen:
                continue
            exchanges.append((name, seat))
            # The same chain leads to the same plan from each of its trips.
            members = linked(neighbours, seats, name, seat)
            for member in members:
                seen.add((member, seat if seats[member] == own else own))
    return exchanges
