"""What the document promises of shifts, passengers and followers together: the same line seen in other ways."""

import random
import unittest

from seatchains.changing import blocks, itinerary
from seatchains.following import always_follows, follows
from seatchains.lines import Line
from seatchains.plans import count, is_plan
from seatchains.shifting import free_seats, shifts, stuck
from tests.reference import every_plan, far_places, is_itinerary, some_lines, stretched
from tests.samples import FAR, ErrorCase

LAST = 8


def cases(seed, many=60, trips=5, seats=3):
    """Lines with two plans of each, and a random source."""
    rng = random.Random(seed)
    for line in some_lines(seed + 1, many, seats, trips, LAST):
        plans = every_plan(line)
        if plans:
            yield rng, line, rng.choice(plans), rng.choice(plans)


def size(thing):
    return None if thing is None else len(thing)


def ways(line, plan, places):
    """How many triples and blocks there are from each of the places to each later one, or None."""
    spans = [(start, end) for at, start in enumerate(places) for end in places[at + 1:]]
    return [(size(itinerary(line, plan, *span)), size(blocks(line, plan, *span))) for span in spans]


class OtherViewTest(ErrorCase):

    def test_seats_renamed(self):
        for rng, line, plan, goal in cases(201):
            seats = list(range(1, line.capacity + 1))
            other = dict(zip(seats, rng.sample(seats, len(seats))))
            new, new_goal = [tuple((name, other[seat]) for name, seat in each) for each in (plan, goal)]
            self.assertIs(is_plan(line, new), True)
            for name, _ in plan:
                self.assertEqual(free_seats(line, new, name),
                                 tuple(sorted(other[seat] for seat in free_seats(line, plan, name))))
            self.assertEqual(size(shifts(line, new, new_goal)), size(shifts(line, plan, goal)))
            self.assertEqual([stuck(line, new), follows(line, new)], [stuck(line, plan), follows(line, plan)])
            self.assertEqual(ways(line, new, range(LAST + 1)), ways(line, plan, range(LAST + 1)))

    def test_names_exchanged(self):
        for rng, line, plan, goal in cases(203):
            names = [name for name, _ in plan]
            other = dict(zip(names, rng.sample(["x", "yy", "zebra", "carl", "bo", "abcdefgh"], len(names))))
            new_line = Line.made(line.capacity, *[(other[name], start, end) for name, start, end in line.trips])
            new, new_goal = [tuple(sorted((other[name], seat) for name, seat in each)) for each in (plan, goal)]
            for name in names:
                self.assertEqual(free_seats(new_line, new, other[name]), free_seats(line, plan, name))
            self.assertEqual(size(shifts(new_line, new, new_goal)), size(shifts(line, plan, goal)))
            self.assertEqual(stuck(new_line, new), tuple(sorted(other[name] for name in stuck(line, plan))))
            for here, there in ((follows(line, plan), follows(new_line, new)),
                                (always_follows(line), always_follows(new_line))):
                self.assertEqual(there, tuple(sorted((other[one], other[two]) for one, two in here)))
            self.assertEqual(ways(new_line, new, range(LAST + 1)), ways(line, plan, range(LAST + 1)))

    def test_stations_stretched(self):
        for rng, line, plan, goal in cases(205):
            places = far_places(rng, LAST + 1)
            far = stretched(line, places)
            for name, _ in plan:
                self.assertEqual(free_seats(far, plan, name), free_seats(line, plan, name))
            self.assertEqual(size(shifts(far, plan, goal)), size(shifts(line, plan, goal)))
            self.assertEqual([stuck(far, plan), follows(far, plan), always_follows(far)],
                             [stuck(line, plan), follows(line, plan), always_follows(line)])
            self.assertEqual(ways(far, plan, places), ways(line, plan, range(LAST + 1)))

    def test_line_run_backwards(self):
        for _, line, plan, goal in cases(207):
            back = Line(line.capacity, tuple((name, LAST - end, LAST - start) for name, start, end in line.trips))
            for name, _ in plan:
                self.assertEqual(free_seats(back, plan, name), free_seats(line, plan, name))
            self.assertEqual(size(shifts(back, plan, goal)), size(shifts(line, plan, goal)))
            self.assertEqual(stuck(back, plan), stuck(line, plan))
            for there, here in ((follows(back, plan), follows(line, plan)),
                                (always_follows(back), always_follows(line))):
                self.assertEqual(there, tuple(sorted((two, one) for one, two in here)))
            for start in range(LAST):
                for end in range(start + 1, LAST + 1):
                    there = itinerary(back, plan, LAST - end, LAST - start)
                    here = itinerary(line, plan, start, end)
                    self.assertEqual(size(there), size(here))
                    if here is not None:
                        turned = tuple((seat, LAST - until, LAST - since) for seat, since, until in there[::-1])
                        self.assertTrue(is_itinerary(line, plan, start, end, turned))


class PartsTest(ErrorCase):

    def test_parts_that_no_trip_joins(self):
        for gap in (0, 1, FAR // 2):
            halves = list(cases(209, 40, 3)), list(cases(211, 40, 3))
            for (_, one, plan, goal), (_, two, other, aim) in zip(*halves):
                if one.capacity != two.capacity:
                    continue
                moved = tuple(("z" + name, LAST + gap + start, LAST + gap + end) for name, start, end in two.trips)
                whole = Line(one.capacity, one.trips + moved)
                joined, joined_goal = [here + tuple(("z" + name, seat) for name, seat in there)
                                       for here, there in ((plan, other), (goal, aim))]
                for name, _ in plan:
                    self.assertEqual(free_seats(whole, joined, name), free_seats(one, plan, name))
                for name, _ in other:
                    self.assertEqual(free_seats(whole, joined, "z" + name), free_seats(two, other, name))
                self.assertEqual(stuck(whole, joined),
                                 stuck(one, plan) + tuple("z" + name for name in stuck(two, other)))
                sizes = [size(shifts(one, plan, goal)), size(shifts(two, other, aim))]
                self.assertEqual(size(shifts(whole, joined, joined_goal)), None if None in sizes else sum(sizes))
                for found, here, there in ((follows(whole, joined), follows(one, plan), follows(two, other)),
                                           (always_follows(whole), always_follows(one), always_follows(two))):
                    apart = [pair for pair in found if pair[0][0] == "z" or pair[1][0] != "z"]
                    self.assertEqual(apart, [*here, *[("z" + early, "z" + late) for early, late in there]])

    def test_a_spare_seat(self):
        for _, line, plan, goal in cases(213, 80, 4):
            more = Line(line.capacity + 1, line.trips)
            for name, _ in plan:
                self.assertEqual(free_seats(more, plan, name), free_seats(line, plan, name) + (more.capacity,))
            self.assertLessEqual(count(more), 2000)
            few, fewer = shifts(line, plan, goal), shifts(more, plan, goal)
            self.assertIsNotNone(fewer)
            self.assertLessEqual(len(fewer), len(fewer) if few is None else len(few))
            self.assertEqual([stuck(more, plan), always_follows(more)], [(), ()])
            self.assertEqual(follows(more, plan), follows(line, plan))
            self.assertEqual(ways(more, plan, (0, 3, LAST, FAR)), [(1, 0)] * 6)


if __name__ == "__main__":
    unittest.main()
