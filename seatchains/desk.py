"""Desks, which book trips one after the other."""

from seatchains.actions import after_action, check_actions, is_action
from seatchains.errors import Busy, InvalidAction, NothingToUndo, TooManyEntries
from seatchains.limits import MAX_ENTRIES
from seatchains.lines import Line


class Desk:
    """A desk with its present line and plan, and the history of its actions."""

    def __init__(self, seats):
        # Each action that was done and not undone, with the line and the plan after it; first the beginning.
        self.moments = ((None, Line(seats), ()),)
        self.working = False
        self.tries = 0

    def __eq__(self, other):
        return isinstance(other, Desk) and self.line == other.line and self.plan == other.plan

    def __str__(self):
        if not self.plan:
            return "-"
        return " ".join([f"{name}={seat}" for name, seat in self.plan])

    def __repr__(self):
        return f"Desk({self.seats} seats, {len(self.plan)} trips)"

    @property
    def line(self):
        """The present line."""
        return self.moments[-1][1]

    @property
    def plan(self):
        """The present plan."""
        return self.moments[-1][2]

    @property
    def seats(self):
        """The number of seats."""
        return self.line.capacity

    @seats.setter
    def seats(self, value):
        self.do(("seats", value))

    @property
    def busy(self):
        """Whether do_all is at work."""
        return self.working

    @property
    def attempts(self):
        """How many calls of do_all began with their actions."""
        return self.tries

    def do(self, action):
        """Do the action and return the plan afterwards."""
        self.check_idle()
        if not is_action(action):
            raise InvalidAction(None)
        return self.perform(action)

    def book(self, name, start, end):
        """Book a trip and return the plan afterwards."""
        return self.do(("book", name, start, end))

    def cancel(self, name):
        """Take the trip out and return the plan afterwards."""
        return self.do(("cancel", name))

    def exchange(self, name, seat):
        """Make an exchange and return the plan afterwards."""
        return self.do(("exchange", name, seat))

    def shift(self, name, seat):
        """Make a shift and return the plan afterwards."""
        return self.do(("shift", name, seat))

    def resize(self, seats):
        """Change the number of seats and return the plan afterwards."""
        return self.do(("seats", seats))

    def do_all(self, actions, *, observer=None):
        """Do all of the actions or, if one fails or the observer raises an error, none; return the plan afterwards."""
        self.check_idle()
        check_actions(actions)
        self.tries += 1
        self.working = True
        moments = self.moments
        try:
            for at, action in enumerate(actions):
                self.perform(action)
                if observer is not None:
                    observer(self, at)
            moments = self.moments
        finally:
            self.working = False
            self.moments = moments
        return self.plan

    def undo(self):
        """Undo the last action that is not undone, and return it."""
        self.check_idle()
        if len(self.moments) == 1:
            raise NothingToUndo()
        action = self.moments[-1][0]
        self.moments = self.moments[:-1]
        return action

    def history(self):
        """Return the actions that were done and not undone."""
        return tuple([moment[0] for moment in self.moments[1:]])

    def check_idle(self):
        """Raise an error if do_all is at work."""
        if self.working:
            raise Busy()

    def perform(self, action):
        """Do the action, whatever is at work, and return the plan afterwards."""
        line, plan = after_action(self.line, self.plan, action)
        if len(self.moments) > MAX_ENTRIES:
            raise TooManyEntries(MAX_ENTRIES + 1)
        self.moments = (*self.moments, (action, line, plan))
        return plan
