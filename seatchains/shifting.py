"""Shifts: exchanges that move one trip alone."""

from seatchains.chains import check_both, check_few_plans, searched, way_to
from seatchains.checks import check_line, check_plan
from seatchains.meeting import neighbours_of


def free_seats(line, plan, name):
    """Return the seats to which the trip can be shifted."""
    check_line(line)
    check_plan(line, plan)
    trip = line.trip(name)
    return tuple(other_seats(line, neighbours_of(line.trips), dict(plan), trip[0]))


def shifts(line, plan, goal):
    """Return the fewest shifts that lead from the plan to the goal, or None if none do."""
    check_both(line, plan, goal)
    check_few_plans(line)
    came = searched(line, plan, goal, every_shift)
    return way_to(came, goal) if goal in came else None


def stuck(line, plan):
    """Return the names of the trips that no shifts give another seat."""
    check_line(line)
    check_plan(line, plan)
    check_few_plans(line)
    came = searched(line, plan, None, every_shift)
    kept = list(plan)
    for other in came:
        kept = [pair for pair in kept if pair in other]
    return tuple([name for name, seat in kept])


def every_shift(line, neighbours, plan):
    """Return the list of the shifts that can be made from the plan."""
    seats = dict(plan)
    return [(name, seat) for name in seats for seat in other_seats(line, neighbours, seats, name)]


def other_seats(line, neighbours, seats, name):
    """Return the list of the seats that neither the trip nor one that meets it has; `seats` holds those of all."""
    taken = [seats[other] for other in [name, *neighbours[name]]]
    return [seat for seat in range(1, line.capacity + 1) if seat not in taken]
