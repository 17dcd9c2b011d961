"""The actions of a desk: which values they are, and what they do to a line and its plan."""

from seatchains.booking import book
from seatchains.chains import exchanged, is_shift
from seatchains.errors import InvalidAction, NotFree, Overfull
from seatchains.lines import Line
from seatchains.plans import least_plan, overfull

# How many elements the actions with these words have.
SIZES = {"book": 4, "cancel": 2, "exchange": 3, "shift": 3, "seats": 2}


def is_action(thing):
    """Return whether any value is a tuple that begins with the word of an action and has as many elements."""
    if not isinstance(thing, tuple) or not thing or not isinstance(thing[0], str):
        return False
    return len(thing) == SIZES.get(thing[0])


def check_actions(actions):
    """Raise an error if the value is not a tuple of actions."""
    if not isinstance(actions, tuple):
        raise InvalidAction(None)
    for at, thing in enumerate(actions):
        if not is_action(thing):
            raise InvalidAction(at)


def after_booking(line, plan, name, start, end):
    """Return the line with one more trip, and a plan in which it has a seat."""
    later, exchanges, goal = book(line, plan, name, start, end)
    return (later, goal)


def after_cancelling(line, plan, name):
    """Return the line without the trip, and the plan in which the others keep their seats."""
    trip = line.trip(name)
    return (line.without(trip[0]), tuple([pair for pair in plan if pair[0] != trip[0]]))


def after_exchange(line, plan, name, seat):
    """Return the line, and the plan after the exchange."""
    return (line, exchanged(line, plan, name, seat))


def after_shift(line, plan, name, seat):
    """Return the line, and the plan after the shift."""
    if not is_shift(line, plan, name, seat):
        raise NotFree(name)
    return (line, exchanged(line, plan, name, seat))


def after_resizing(line, plan, seats):
    """Return the line with this number of seats, and the plan if it is still one, otherwise the least plan."""
    later = Line(seats, line.trips)
    station = overfull(later)
    if station is not None:
        raise Overfull(station)
    if any([pair[1] > seats for pair in plan]):
        return (later, least_plan(later))
    return (later, plan)


EFFECTS = {
    "book": after_booking,
    "cancel": after_cancelling,
    "exchange": after_exchange,
    "shift": after_shift,
    "seats": after_resizing,
}


def after_action(line, plan, action):
    """Return the line and the plan after the action."""
    effect = EFFECTS[action[0]]
    values = action[1:]
    return effect(line, plan, *values)
