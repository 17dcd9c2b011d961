"""Ways through a network of points.

Arcs are a list of tuples `(tail, head, room)`: at most `room` ways go through an arc, from its tail to its head. No
arcs lead back to where they started. A flow is the list of how many ways go through each arc.
"""


def reached(arcs, flow, first):
    """Return the points to which one more way from the first point can be laid.

    Each one has the arc by which it was reached, 1 if one more way goes through the arc or -1 if one less does, and
    the point before it; the first point has None.
    """
    came = {first: None}
    waiting = [first]
    while waiting:
        point = waiting.pop()
        for at, change, other in branches(arcs, flow, point):
            if other not in came:
                came[other] = (at, change, point)
                waiting.append(other)
    return came


def branches(arcs, flow, point):
    """Return the list of the arcs with room from the point on, and of those from which a way to it can be taken."""
    found = []
    for at, (tail, head, room) in enumerate(arcs):
        if tail == point and flow[at] < room:
            found.append((at, 1, head))
        if head == point and flow[at] > 0:
            found.append((at, -1, tail))
    return found


def one_more(flow, came, goal):
    """Return the flow with one more way, to a point that was reached."""
    more = list(flow)
    step = came[goal]
    while step is not None:
        at, change, before = step
        more[at] += change
        step = came[before]
    return more


def ways_of(arcs, flow, first, goals):
    """Return a way for each goal, as the list of its arcs: the flow taken apart."""
    left = list(flow)
    ways = []
    for goal in goals:
        way = []
        point = goal
        while point != first:
            at = arc_into(arcs, left, point)
            left[at] -= 1
            way.append(at)
            point = arcs[at][0]
        ways.append(way)
    return ways


def arc_into(arcs, flow, point):
    """Return an arc, which there must be, by which some way comes to the point."""
    return [at for at, arc in enumerate(arcs) if arc[1] == point and flow[at] > 0][0]
