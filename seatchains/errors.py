"""The errors of the program.

No message shows the value in question: it may be of any kind, also one that cannot be shown.
"""


class SeatError(ValueError):
    """An argument is not valid."""


class InvalidSeats(SeatError):
    """A value is not a number of seats."""

    def __init__(self, value):
        super().__init__("this is not an integer from 1 to 20, as a number of seats must be")
        self.value = value


class InvalidTrips(SeatError):
    """A value is not the trips of a line."""

    def __init__(self, index):
        super().__init__("these are not at most 24 trips in ascending order of different names")
        self.index = index


class InvalidName(SeatError):
    """A value is not a name, or no trip has it."""

    def __init__(self, name):
        super().__init__("this is not a name that can be used here")
        self.name = name


class InvalidSeat(SeatError):
    """A value is not a seat of the line, or not another seat than that of the trip."""

    def __init__(self, seat):
        super().__init__("this is not a seat that can be used here")
        self.seat = seat


class InvalidStation(SeatError):
    """A value is not a station, or not one behind the start."""

    def __init__(self, station):
        super().__init__("this is not a station that can be used here")
        self.station = station


class InvalidPlan(SeatError):
    """A value is not a plan of the line."""

    def __init__(self, index):
        super().__init__("this is not a plan of the line")
        self.index = index


class InvalidFixed(SeatError):
    """A value is not fixed seats of the line."""

    def __init__(self, index):
        super().__init__("these are not fixed seats of the line")
        self.index = index


class InvalidExchange(SeatError):
    """A value is not a tuple of exchanges."""

    def __init__(self, index):
        super().__init__("these are not exchanges that can be made one after the other")
        self.index = index


class InvalidNumber(SeatError):
    """A value is not the number of a plan."""

    def __init__(self, number):
        super().__init__("no plan of the line has this number")
        self.number = number


class InvalidText(SeatError):
    """A value is not the text of a line."""

    def __init__(self, text):
        super().__init__("no line has this text")
        self.text = text


class InvalidAction(SeatError):
    """A value is not an action, or not a tuple of actions."""

    def __init__(self, index):
        super().__init__("this is not what a desk can do")
        self.index = index


class InvalidCommand(SeatError):
    """A value is not a command."""

    def __init__(self, command):
        super().__init__("this is not a command")
        self.command = command


class NotALine(SeatError):
    """A value is not a line."""

    def __init__(self, value):
        super().__init__("this is not a line")
        self.value = value


class StateError(LookupError):
    """Something cannot be done as things stand."""


class Overfull(StateError):
    """A stretch has more trips than there are seats."""

    def __init__(self, station):
        super().__init__("a stretch has more trips than there are seats")
        self.station = station


class Full(StateError):
    """A stretch of the trip has no seat left."""

    def __init__(self, station):
        super().__init__("a stretch of the trip has no seat left")
        self.station = station


class NameTaken(StateError):
    """Another trip has the name."""

    def __init__(self, name):
        super().__init__("a trip of the line has this name")
        self.name = name


class NotFree(StateError):
    """The seat is not free all along the trip."""

    def __init__(self, name):
        super().__init__("the seat is not free all along the trip")
        self.name = name


class Busy(StateError):
    """The desk is at work."""

    def __init__(self):
        super().__init__("the desk is at work")


class NothingToUndo(StateError):
    """The history is empty."""

    def __init__(self):
        super().__init__("no action is left to be undone")


class SizeError(ArithmeticError):
    """Something would be more than the program handles."""


class TooManyTrips(SizeError):
    """A line would have more than 24 trips."""

    def __init__(self, found):
        super().__init__("a line has at most 24 trips")
        self.found = found


class TooManyPlans(SizeError):
    """A line has more than 2000 plans."""

    def __init__(self, found):
        super().__init__("this is done for at most 2000 plans")
        self.found = found


class TooManyEntries(SizeError):
    """A history would have more than 100 actions."""

    def __init__(self, found):
        super().__init__("a history has at most 100 actions")
        self.found = found
