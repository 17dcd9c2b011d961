"""Plans: which there are, how many, and their numbers."""

from seatchains.checks import check_line, check_plan, valid_pairs
from seatchains.errors import InvalidNumber
from seatchains.kinds import is_integer
from seatchains.meeting import meet, plan_of, seats_left


def is_plan(line, thing):
    """Return whether any value is a plan of the line."""
    check_line(line)
    if not isinstance(thing, tuple) or len(thing) != len(line.trips):
        return False
    return valid_pairs(line, thing) == len(thing)


def overfull(line):
    """Return the least overfull stretch, or None."""
    check_line(line)
    # The load grows only where a trip starts.
    for name, start, end in line.walk():
        if line.load(start) > line.capacity:
            return start
    return None


def count(line):
    """Return the number of plans."""
    if overfull(line) is not None:
        return 0
    product = 1
    for size in choices(line):
        product *= size
    return product


def least_plan(line):
    """Return the plan with the number 0, or None if there is none."""
    if overfull(line) is not None:
        return None
    return numbered(line, 0)


def plan_at(line, number):
    """Return the plan with this number."""
    check_line(line)
    if not is_integer(number) or not 0 <= number < count(line):
        raise InvalidNumber(number)
    return numbered(line, number)


def number_of(line, plan):
    """Return the number of the plan."""
    check_line(line)
    check_plan(line, plan)
    seats = dict(plan)
    seated = []
    number = 0
    for trip in line.walk():
        left = seats_left(line.capacity, trip, seated)
        seat = seats[trip[0]]
        number = number * len(left) + left.index(seat)
        seated.append((trip, seat))
    return number


def all_plans(line):
    """Yield all plans in the order of their numbers."""
    total = count(line)
    number = 0
    while number < total:
        yield numbered(line, number)
        number += 1


def choices(line):
    """Return the list of how many seats each trip can choose among, in the order of the line."""
    earlier = []
    sizes = []
    for trip in line.walk():
        sizes.append(line.capacity - len([other for other in earlier if meet(trip, other)]))
        earlier.append(trip)
    return sizes


def numbered(line, number):
    """Return the plan with this number, which there must be."""
    digits = digits_of(number, choices(line))
    seated = []
    for trip, digit in zip(line.walk(), digits):
        left = seats_left(line.capacity, trip, seated)
        seated.append((trip, left[digit]))
    return plan_of(seated)


def digits_of(number, sizes):
    """Return the digits of the number, each one less than its size; the first one weighs most."""
    digits = []
    for size in reversed(sizes):
        digits.append(number % size)
        number = number // size
    return digits[::-1]
