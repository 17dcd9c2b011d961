"""Consoles, which run commands at a desk and answer with texts."""

from seatchains.changing import itinerary
from seatchains.desk import Desk
from seatchains.errors import InvalidCommand
from seatchains.kinds import number_written
from seatchains.plans import count, number_of

MOST_DIGITS = 70

# The words of the commands that are actions of a desk.
ACTIONS = ("book", "cancel", "exchange", "shift", "seats")

# Which words stand behind the first one.
FORMS = {
    "book": ("name", "number", "number"),
    "cancel": ("name",),
    "exchange": ("name", "number"),
    "shift": ("name", "number"),
    "seats": ("number",),
    "undo": (),
    "show": (),
    "line": (),
    "count": (),
    "number": (),
    "load": ("number",),
    "trip": ("number", "number"),
}


class Console:
    """A console with its desk."""

    def __init__(self, seats):
        self.desk = Desk(seats)

    def run(self, command):
        """Run the command and return a text."""
        words = parsed(command)
        if words[0] in ACTIONS:
            self.desk.do(tuple(words))
            return str(self.desk)
        if words[0] == "undo":
            self.desk.undo()
            return str(self.desk)
        return answer(self.desk, words)


def parsed(command):
    """Return the list of the words of the command, with integers in the places of numbers."""
    if not isinstance(command, str):
        raise InvalidCommand(command)
    words = command.split(" ")
    form = FORMS.get(words[0])
    if form is None or len(words) != len(form) + 1:
        raise InvalidCommand(command)
    read = [words[0]]
    for kind, word in zip(form, words[1:]):
        thing = number_read(word) if kind == "number" else word
        if thing is None or thing == "":
            raise InvalidCommand(command)
        read.append(thing)
    return read


def number_read(word):
    """Return the number that is written so, or None if none is."""
    return number_written(word) if len(word) <= MOST_DIGITS else None


def answer(desk, words):
    """Return the text with which a command is answered that changes nothing."""
    if words[0] == "show":
        return str(desk)
    if words[0] == "line":
        return str(desk.line)
    if words[0] == "count":
        return str(count(desk.line))
    if words[0] == "number":
        return str(number_of(desk.line, desk.plan))
    if words[0] == "load":
        return str(desk.line.load(words[1]))
    return way_written(itinerary(desk.line, desk.plan, words[1], words[2]))


def way_written(triples):
    """Return the text of an itinerary, or of None."""
    if triples is None:
        return "none"
    return " ".join([f"{seat}:{start}-{end}" for seat, start, end in triples])
