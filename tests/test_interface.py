"""What holds of all functions: names, arguments, lines, and that nothing changes."""

import importlib
import inspect
import unittest

from seatchains.chains import follow, route
from seatchains.checker import accepts
from seatchains.errors import InvalidExchange, InvalidFixed, InvalidNumber, InvalidPlan, NotALine
from seatchains.fixing import fixed_plan
from seatchains.lines import Line
from seatchains.plans import all_plans, count, is_plan, least_plan, number_of, overfull, plan_at
from tests.samples import NOT_TEXTS, ErrorCase
from tests.wrong import GOAL, LINE, NOT_LINES, PLAN

# The functions of each file: their arguments, and values for all of these but the line.
FUNCTIONS = {
    "plans": {
        "is_plan": ("line thing", PLAN), "overfull": ("line",), "count": ("line",), "least_plan": ("line",),
        "plan_at": ("line number", 1), "number_of": ("line plan", GOAL), "all_plans": ("line",),
    },
    "chains": {
        "chain": ("line plan name seat", PLAN, "ann", 2), "exchanged": ("line plan name seat", PLAN, "ann", 2),
        "is_shift": ("line plan name seat", PLAN, "ann", 2), "route": ("line plan goal", PLAN, GOAL),
        "follow": ("line plan exchanges", PLAN, (("ann", 2), ("bob", 2))),
        "steps": ("line plan exchanges", PLAN, (("ann", 2), ("bob", 2))), "shortest": ("line plan goal", PLAN, GOAL),
    },
    "booking": {
        "full_stretch": ("line start end", 1, 4), "book": ("line plan name start end", PLAN, "dora", 5, 7),
    },
    "fixing": {
        "fixed_plan": ("line fixed", (("ann", 2),)), "fixed_obstacle": ("line fixed", (("ann", 2),)),
    },
    "shifting": {
        "free_seats": ("line plan name", PLAN, "ann"), "shifts": ("line plan goal", PLAN, PLAN),
        "stuck": ("line plan", PLAN),
    },
    "changing": {
        "itinerary": ("line plan start end", PLAN, 4, 9), "blocks": ("line plan start end", PLAN, 4, 9),
    },
    "following": {
        "follows": ("line plan", PLAN), "always_follows": ("line",),
    },
    "certificates": {
        "certify_plan": ("line",), "certify_route": ("line plan goal", PLAN, GOAL),
        "certify_fixed": ("line fixed", (("ann", 2),)), "certify_number": ("line plan", GOAL),
        "certify_changes": ("line plan start end", PLAN, 4, 9),
    },
}

# The methods of each class with their arguments as they are written, and the properties.
CLASSES = {
    "lines": ("Line", {
        "__init__": "(self, seats, trips=())", "load": "(self, station)", "walk": "(self)", "trip": "(self, name)",
        "added": "(self, name, start, end)", "without": "(self, *names)", "is_name": "(thing)", "read": "(cls, text)",
        "made": "(cls, seats, *trips)",
    }, ["capacity", "trips", "order", "peak"]),
    "desk": ("Desk", {
        "__init__": "(self, seats)", "do": "(self, action)", "book": "(self, name, start, end)",
        "cancel": "(self, name)", "exchange": "(self, name, seat)", "shift": "(self, name, seat)",
        "resize": "(self, seats)", "do_all": "(self, actions, *, observer=None)", "undo": "(self)",
        "history": "(self)",
    }, ["line", "plan", "seats", "busy", "attempts"]),
    "console": ("Console", {"__init__": "(self, seats)", "run": "(self, command)"}, []),
}

GENERATORS = ("all_plans", "steps")


def rows():
    """Each function with its name, the names of its arguments and values for them."""
    for file, functions in FUNCTIONS.items():
        for name, (arguments, *values) in functions.items():
            yield file, name, getattr(importlib.import_module("seatchains." + file), name), arguments.split(), values


def result(call, *args, **named):
    """What the call returns, or the list of what it yields."""
    found = call(*args, **named)
    return list(found) if inspect.isgenerator(found) else found


class InterfaceTest(ErrorCase):

    def test_each_function_stands_in_its_file_with_its_arguments(self):
        for file, name, call, arguments, _ in rows():
            self.assertEqual([call.__module__, call.__name__], ["seatchains." + file, name])
            parameters = inspect.signature(call).parameters.values()
            self.assertEqual([each.name for each in parameters], arguments)
            self.assertEqual({(each.kind, each.default) for each in parameters},
                             {(inspect.Parameter.POSITIONAL_OR_KEYWORD, inspect.Parameter.empty)})

    def test_each_class_stands_in_its_file_with_its_methods(self):
        for file, (name, methods, properties) in CLASSES.items():
            kind = getattr(importlib.import_module("seatchains." + file), name)
            self.assertEqual([kind.__module__, kind.__name__], ["seatchains." + file, name])
            for method, arguments in methods.items():
                # A class or static method holds its function.
                found = vars(kind)[method]
                self.assertEqual(str(inspect.signature(getattr(found, "__func__", found))), arguments, method)
            for each in properties:
                self.assertIs(type(vars(kind)[each]), property)
                self.assertEqual(vars(kind)[each].fset is not None, each == "seats")

    def test_the_checker(self):
        self.assertEqual([accepts.__module__, str(inspect.signature(accepts))],
                         ["seatchains.checker", "(claim, certificate)"])

    def test_generators(self):
        for _, name, call, _, values in rows():
            self.assertEqual(inspect.isgenerator(call(LINE, *values)), name in GENERATORS)

    def test_by_position_and_by_name(self):
        for _, _, call, arguments, values in rows():
            whole = [LINE, *values]
            named = dict(zip(arguments, whole))
            for many in range(len(whole) + 1):
                rest = {name: named[name] for name in arguments[many:][::-1]}
                self.assertEqual(result(call, *whole[:many], **rest), result(call, *whole))

    def test_the_same_call_returns_the_same_each_time(self):
        for _, _, call, _, values in rows():
            first = result(call, LINE, *values)
            other = result(call, Line.read(str(LINE)), *values)
            self.assertEqual([repr(other), repr(result(call, LINE, *values))], [repr(first)] * 2)

    def test_nothing_changes(self):
        for _, _, call, _, values in rows():
            line = Line(2, LINE.trips)
            before = repr(values)
            result(call, line, *values)
            self.assertEqual(repr(values), before)
            self.assertEqual([str(line), line.order, line.peak], [str(LINE), LINE.order, LINE.peak])

    def test_what_is_no_line(self):
        for _, _, call, _, values in rows():
            before = repr(result(call, LINE, *values))
            for thing in NOT_LINES:
                self.assert_error(NotALine, {"value": thing}, result, call, thing, *values)
                self.assert_error(NotALine, {"value": thing}, result, call, thing, *[thing for _ in values])
            self.assertEqual(repr(result(call, LINE, *values)), before)

    def test_a_line_without_trips_is_a_line(self):
        line = Line(3)
        self.assertEqual(len(line), 0)
        for call in (overfull, count, least_plan):
            call(line)
        self.assertEqual([is_plan(line, ()), is_plan(line, None), list(all_plans(line))], [True, False, [()]])

    def test_lists_in_the_place_of_tuples(self):
        self.assertIs(is_plan(LINE, list(PLAN)), False)
        self.assert_error(InvalidPlan, {"index": None}, number_of, LINE, list(PLAN))
        self.assert_error(InvalidPlan, {"index": 2}, number_of, LINE, PLAN[:2] + (list(PLAN[2]),))
        self.assert_error(InvalidPlan, {"index": None}, route, LINE, PLAN, list(GOAL))
        self.assert_error(InvalidExchange, {"index": None}, follow, LINE, PLAN, [])
        self.assert_error(InvalidFixed, {"index": None}, fixed_plan, LINE, [])

    def test_any_value_that_may_be_asked_about(self):
        for thing in NOT_TEXTS:
            self.assertIs(is_plan(LINE, thing), False)
            if type(thing) is not int:
                self.assert_error(InvalidNumber, {"number": thing}, plan_at, LINE, thing)


if __name__ == "__main__":
    unittest.main()
