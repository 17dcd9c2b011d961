"""What the document says of claims and their certificates, done in the plainest way."""

import functools
import itertools

from seatchains.errors import SeatError
from seatchains.lines import Line
from tests.reference import (after, are_blocks, every_exchange, every_fixed, every_plan, fewest_triples, is_itinerary,
                             load, plans_in_order, starts_outside, stops_of, ways_out)

SIZES = {"plan": 4, "no plan": 3, "route": 5, "fixed": 4, "not fixed": 4, "number": 5, "changes": 7, "no seat": 6}


@functools.lru_cache(maxsize=4096)
def plans_of(line_text):
    """All plans of the line in their order, each one as it is written."""
    return [repr(plan) for plan in plans_in_order(Line.read(line_text))]


@functools.lru_cache(maxsize=4096)
def fixed_of(line_text):
    """All fixed seats of the line, as they are written."""
    return {repr(fixed) for fixed in every_fixed(Line.read(line_text))}


def is_integer(thing, least=0):
    return type(thing) is int and thing >= least


def is_row(thing, size):
    """Whether it is a tuple of so many integers."""
    return type(thing) is tuple and len(thing) == size and all(is_integer(each) for each in thing)


def is_cut(line, fixed, thing):
    if type(thing) is not tuple or not all(is_integer(stop) for stop in thing):
        return False
    stops = stops_of(line)
    if list(thing) != sorted(set(thing)) or not set(thing) <= set(stops) or stops[:1] != list(thing[:1]):
        return False
    if any(load(line, start) > line.capacity for _, start, _ in line.trips):
        return False
    return ways_out(line, fixed, thing) < starts_outside(line, fixed, thing)


def is_overfull(line, thing):
    return is_integer(thing) and load(line, thing) > line.capacity


def leads(line, plan, goal, exchanges):
    if type(exchanges) is not tuple or len(exchanges) > len(line):
        return False
    for exchange in exchanges:
        if repr(exchange) not in map(repr, every_exchange(line, plan)):
            return False
        plan = after(line, plan, *exchange)
    return plan == goal


def shows_changes(line, plan, start, end, changes, certificate):
    if type(certificate) is not tuple or len(certificate) != 2:
        return False
    triples, pairs = certificate
    if type(triples) is not tuple or not all(is_row(triple, 3) for triple in triples) or len(triples) != changes + 1:
        return False
    if type(pairs) is not tuple or not all(is_row(pair, 2) for pair in pairs) or len(pairs) != changes:
        return False
    return is_itinerary(line, plan, start, end, triples) and are_blocks(line, plan, start, end, pairs)


def judged(claim, certificate):
    """What accepts should return, for lines with few trips and seats."""
    if type(claim) is not tuple or not claim or type(claim[0]) is not str or len(claim) != SIZES.get(claim[0]):
        return False
    word, seats, trips, *rest = claim
    try:
        line = Line(seats, trips)
    except SeatError:
        return False
    if word == "no plan":
        return is_overfull(line, certificate)
    first, *others = rest
    if word in ("fixed", "not fixed"):
        return repr(first) in fixed_of(str(line)) and judged_fixed(line, word, first, certificate)
    return repr(first) in plans_of(str(line)) and judged_plan(line, word, first, others, certificate)


def judged_fixed(line, word, fixed, certificate):
    if word == "fixed":
        return repr(certificate) in plans_of(str(line)) and set(fixed) <= set(certificate)
    if type(certificate) is not tuple or len(certificate) != 2 or type(certificate[0]) is not str:
        return False
    if certificate[0] == "overfull":
        return is_overfull(line, certificate[1])
    return certificate[0] == "cut" and is_cut(line, fixed, certificate[1])


def judged_plan(line, word, plan, others, certificate):
    if word == "plan":
        return certificate is None
    if word == "route":
        return repr(others[0]) in plans_of(str(line)) and leads(line, plan, others[0], certificate)
    if word == "number":
        return certificate is None and is_integer(others[0]) and plans_of(str(line)).index(repr(plan)) == others[0]
    start, end, *changes = others
    if not is_integer(start) or not is_integer(end) or start >= end:
        return False
    if word == "no seat":
        return is_integer(certificate) and start <= certificate < end and load(line, certificate) == line.capacity
    return is_integer(changes[0]) and shows_changes(line, plan, start, end, changes[0], certificate)


def is_true(claim):
    """Whether a claim in the right form is true, by a search through all plans; for stations near to each other."""
    word, seats, trips, *rest = claim
    line = Line(seats, trips)
    plans = every_plan(line)
    if word == "no plan":
        return plans == []
    if word in ("fixed", "not fixed"):
        return any(set(rest[0]) <= set(plan) for plan in plans) == (word == "fixed")
    if rest[0] not in plans:
        return False
    if word == "number":
        return plans_in_order(line).index(rest[0]) == rest[1]
    if word in ("changes", "no seat"):
        many = fewest_triples(line, *rest[:3])
        return many is None if word == "no seat" else many == rest[3] + 1
    return word == "plan" or rest[1] in plans


def places(thing):
    """The way to each value in nested tuples, the whole one included."""
    yield ()
    if type(thing) is tuple:
        for at, each in enumerate(thing):
            for way in places(each):
                yield (at, *way)


def value_at(thing, way):
    return functools.reduce(lambda whole, at: whole[at], way, thing)


def replaced(thing, way, other):
    """Nested tuples with another value at this place."""
    if not way:
        return other
    at, *rest = way
    return thing[:at] + (replaced(thing[at], tuple(rest), other),) + thing[at + 1:]


def otherwise(thing):
    """Values that might be taken for this one, or might stand in its place."""
    if type(thing) is int:
        numbers = [thing + 1, thing - 1, -thing, 0, 1, 2, thing + 10 ** 69]
        return [*numbers, True, False, None, str(thing), (thing,), [thing]]
    if type(thing) is str:
        words = [*SIZES, "overfull", "cut", "ann", "bob", "carl", "", thing + "x", thing[:-1], thing.upper()]
        return [*words, None, 1, True, (thing,), [thing], thing.encode(), tuple(thing)]
    if type(thing) is tuple:
        return [list(thing), thing[:-1], thing[1:], thing + thing[-1:], thing[:1] + thing, thing[::-1], (), (thing,),
                [thing], None, thing + (None,), dict.fromkeys(["ann"], thing), {}, 0, True, False, "",
                *[thing[:at] + thing[at + 1:] for at in range(len(thing))],
                *[thing[:at] + (thing[at + 1], thing[at]) + thing[at + 2:] for at in range(len(thing) - 1)]]
    return [0, 1, (), [], False, True, "", "None", (None,)]


def otherwise_everywhere(thing):
    """The nested tuples with one value at each place put otherwise."""
    for way in places(thing):
        for other in otherwise(value_at(thing, way)):
            yield replaced(thing, way, other)


def subsets(stops):
    return itertools.chain(*[itertools.combinations(stops, many) for many in range(len(stops) + 1)])
