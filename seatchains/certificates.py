"""True claims about lines, with certificates that the checker accepts."""

from seatchains.booking import full_stretch
from seatchains.chains import route
from seatchains.changing import blocks, itinerary
from seatchains.fixing import plan_or_obstacle
from seatchains.plans import least_plan, number_of, overfull


def certify_plan(line):
    """Return a claim that there is a plan or none, and its certificate."""
    station = overfull(line)
    if station is not None:
        return (("no plan", line.capacity, line.trips), station)
    return (("plan", line.capacity, line.trips, least_plan(line)), None)


def certify_route(line, plan, goal):
    """Return the claim that few exchanges lead from the plan to the goal, and its certificate."""
    exchanges = route(line, plan, goal)
    return (("route", line.capacity, line.trips, plan, goal), exchanges)


def certify_fixed(line, fixed):
    """Return a claim that there is a plan that keeps the fixed seats or none, and its certificate."""
    plan, obstacle = plan_or_obstacle(line, fixed)
    if plan is None:
        return (("not fixed", line.capacity, line.trips, fixed), obstacle)
    return (("fixed", line.capacity, line.trips, fixed), plan)


def certify_number(line, plan):
    """Return the claim that the plan has its number, and its certificate."""
    number = number_of(line, plan)
    return (("number", line.capacity, line.trips, plan, number), None)


def certify_changes(line, plan, start, end):
    """Return a claim how many changes a passenger needs, or that there is no way, and its certificate."""
    triples = itinerary(line, plan, start, end)
    if triples is None:
        station = full_stretch(line, start, end)
        return (("no seat", line.capacity, line.trips, plan, start, end), station)
    changes = len(triples) - 1
    pairs = blocks(line, plan, start, end)
    return (("changes", line.capacity, line.trips, plan, start, end, changes), (triples, pairs))
