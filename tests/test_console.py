"""console.py: Console."""

import random
import unittest

from seatchains.changing import itinerary
from seatchains.console import Console
from seatchains.desk import Desk
from seatchains.errors import (Full, InvalidCommand, InvalidName, InvalidSeat, InvalidSeats, InvalidStation, NameTaken,
                               NotFree, NothingToUndo, Overfull, TooManyEntries, TooManyTrips)
from seatchains.plans import count, number_of
from tests.samples import DEEP, FAR, NOT_INTEGERS, NOT_TEXTS, SIGNS, TRIPS_24, ErrorCase, Pretender
from tests.test_desk import some_action

NUMBER_COMMANDS = ("book ann {} 9", "book ann 0 {}", "exchange ann {}", "shift ann {}", "seats {}", "load {}",
                   "trip {} 9", "trip 0 {}")

# Not one of these is a number as it is written, and none has a blank at its ends.
NO_NUMBERS = ("01", "00", "007", "+1", "-1", "-0", "--1", "1.0", "1e3", "0x1", "1_000", "one", "l", "1,", "1\n", "\n1",
              "1-2", "None", "True", "#", "'1'", "0b1", "1+1", "ann")


def set_up(seats, *commands):
    console = Console(seats)
    for command in commands:
        console.run(command)
    return console


def written(triples):
    return "none" if triples is None else " ".join(f"{seat}:{start}-{end}" for seat, start, end in triples)


class ConsoleCase(ErrorCase):

    def check_state(self, console, desk):
        """The console answers for the same line and plan as the desk has."""
        line, plan = desk.line, desk.plan
        texts = [console.run(command) for command in ("show", "line", "count", "number")]
        self.assertEqual(texts, [str(desk), str(line), str(count(line)), str(number_of(line, plan))])
        self.assertEqual({type(text) for text in texts}, {str})


class CommandsTest(ConsoleCase):

    def test_a_new_console(self):
        for seats in (1, 2, 20):
            console = Console(seats)
            self.check_state(console, Desk(seats))
            self.assertEqual([console.run(command) for command in ("show", "line", "count", "number", "load 3")],
                             ["-", str(seats), "1", "0", "0"])
            self.assertEqual(console.run("trip 0 9"), "1:0-9")
        self.assertEqual(Console(seats=3).run(command="line"), "3")

    def test_numbers_of_seats(self):
        for thing in [*NOT_INTEGERS, *DEEP, 0, 21, -1, FAR, -FAR]:
            self.assert_error(InvalidSeats, {"value": thing}, Console, thing)

    def test_each_command(self):
        console = Console(2)
        for command, text in (
                ("book ann 0 3", "ann=1"), ("book bob 2 5", "ann=1 bob=2"), ("exchange ann 2", "ann=2 bob=1"),
                ("show", "ann=2 bob=1"), ("line", "2 ann:0-3 bob:2-5"), ("count", "2"), ("number", "1"),
                ("load 2", "2"), ("load 0", "1"), ("load 5", "0"), ("trip 0 3", "none"),
                ("trip 0 2", "1:0-2"), ("trip 3 9", "2:3-9"),
                ("seats 3", "ann=2 bob=1"), ("trip 0 9", "3:0-9"), ("shift ann 3", "ann=3 bob=1"),
                ("trip 0 9", "2:0-9"), ("count", "6"), ("seats 2", "ann=1 bob=2"), ("undo", "ann=3 bob=1"),
                ("cancel bob", "ann=3"), ("undo", "ann=3 bob=1"), ("undo", "ann=2 bob=1"),
                ("line", "3 ann:0-3 bob:2-5"), ("undo", "ann=2 bob=1"), ("undo", "ann=1 bob=2"), ("undo", "ann=1"),
                ("undo", "-"), ("line", "2")):
            self.assertEqual(console.run(command), text)

    def test_trips_with_changes(self):
        console = set_up(2, "book ann 0 3", "book bob 3 6", "exchange bob 2", "book carl 7 8", "exchange carl 2")
        self.assertEqual([console.run("trip 1 9"), console.run("trip 3 9"), console.run("trip 0 3")],
                         ["2:1-3 1:3-9", "1:3-9", "2:0-3"])
        self.assertEqual(console.run("show"), "ann=1 bob=2 carl=2")

    def test_the_same_as_a_desk(self):
        rng = random.Random(291)
        for _ in range(60):
            seats = rng.randint(1, 4)
            console, desk = Console(seats), Desk(seats)
            for _ in range(25):
                action = some_action(rng, desk.line)
                command = " ".join(map(str, action))
                if rng.random() < 0.15 and desk.history():
                    desk.undo()
                    self.assertEqual(console.run("undo"), str(desk))
                    continue
                try:
                    desk.do(action)
                except (ValueError, LookupError) as error:
                    self.assert_error(type(error), vars(error), console.run, command)
                else:
                    self.assertEqual(console.run(command), str(desk))
                self.check_state(console, desk)
                start, end = sorted(rng.sample(range(12), 2))
                self.assertEqual(console.run(f"trip {start} {end}"),
                                 written(itinerary(desk.line, desk.plan, start, end)))
                self.assertEqual(console.run(f"load {start}"), str(desk.line.load(start)))

    def test_numbers_of_1_to_70_digits(self):
        for digits in (1, 2, 9, 30, 69, 70):
            for number in (10 ** (digits - 1), 10 ** digits - 2):
                console = Console(2)
                self.assertEqual(console.run(f"book ann 0 {number}"), "ann=1")
                self.assertEqual(console.run("line"), f"2 ann:0-{number}")
                self.assertEqual(console.run(f"load {number - 1}"), "1")
                self.assertEqual(console.run(f"load {number}"), "0")
                self.assertEqual(console.run(f"book bob {number} {number + 1}"), "ann=1 bob=1")
                self.assertEqual(console.run(f"trip 0 {number + 1}"), f"2:0-{number + 1}")
                if number > 20:
                    self.assert_error(InvalidSeats, {"value": number}, console.run, f"seats {number}")
        self.assertEqual(Console(2).run(f"trip 0 {FAR}"), f"1:0-{FAR}")
        for digits in (71, 4990):
            command = "load " + "1" * digits
            self.assert_error(InvalidCommand, {"command": command}, Console(2).run, command)

    def test_24_trips(self):
        console, desk = Console(20), Desk(20)
        for name, start, end in TRIPS_24:
            desk.book(name, start, end)
            self.assertEqual(console.run(f"book {name} {start} {end}"), str(desk))
        self.check_state(console, desk)
        self.assertEqual(console.run("count"), str(20 * 19 ** 23))
        self.assert_error(TooManyTrips, {"found": 25}, console.run, "book z 0 1")

    def test_two_consoles_are_never_equal(self):
        one, two = Console(2), Console(2)
        for other in (two, Console(3), Desk(2), None, "-", 2, []):
            self.assertEqual([one == other, other == one, one != other], [False, False, True])
        self.assertEqual([one == one, one != one, bool(one)], [True, False, True])
        self.assertIs(Desk(2) == one, False)

    def test_two_consoles_have_nothing_in_common(self):
        one, two = Console(2), Console(2)
        one.run("book ann 0 3")
        self.assertEqual([one.run("show"), two.run("show")], ["ann=1", "-"])


class ErrorsTest(ConsoleCase):

    def setUp(self):
        self.console = set_up(2, "book ann 0 3", "book bob 2 5", "book carl 3 4")
        self.desk = Desk(2)
        self.desk.do_all((("book", "ann", 0, 3), ("book", "bob", 2, 5), ("book", "carl", 3, 4)))

    def check_wrong(self, thing):
        self.assert_error(InvalidCommand, {"command": thing}, self.console.run, thing)
        self.assert_error(InvalidCommand, {"command": thing}, self.console.run, command=thing)

    def tearDown(self):
        self.check_state(self.console, self.desk)

    def test_no_texts(self):
        for thing in [*NOT_TEXTS, *DEEP, ["show"], ("show",), b"show", {"show": 1}, Pretender(), Desk(2), Console(2)]:
            self.check_wrong(thing)

    def test_first_words(self):
        for word in ("", "shows", "Show", "SHOW", "sho", "ann", "resize", "do", "do_all", "history", "plan", "busy",
                     "-", "none", "0", "1", "Book", "name", "number\n", "\n", *SIGNS.replace(" ", "")):
            for rest in ("", " 1", " ann", " ann 1", " ann 0 1", " 0 1"):
                self.check_wrong(word + rest)

    def test_numbers_of_words(self):
        right = {"book": 3, "cancel": 1, "exchange": 2, "shift": 2, "seats": 1, "undo": 0, "show": 0, "line": 0,
                 "count": 0, "number": 0, "load": 1, "trip": 2}
        for word, many in right.items():
            for words in ([], ["ann"], ["1"], ["ann", "1"], ["0", "9"], ["zoe", "0", "1"], ["0", "1", "2"],
                          ["zoe", "0", "1", "2"], ["1"] * 9):
                if len(words) != many:
                    self.check_wrong(" ".join([word, *words]))

    def test_blanks_too_many(self):
        for command in ("book zoe 5 6", "cancel ann", "exchange ann 2", "seats 2", "undo", "show", "load 3", "trip 0 9",
                        "count", "number", "line", "shift ann 2"):
            words = command.split()
            for wrong in (" " + command, command + " ", " " + command + " ", "  ".join(words) + " ",
                          command.replace(" ", "\n") + "\n", "\n" + command):
                self.check_wrong(wrong)
            for at in range(len(words)):
                self.check_wrong(" ".join(words[:at] + [""] + words[at:]))
                self.check_wrong(" ".join(words[:at] + [""] + words[at + 1:]))

    def test_a_newline_is_no_blank(self):
        for command in ("book zoe 5 6\n", "exchange ann 2\n", "seats 2\n", "undo\n", "load 3\n", "trip 0\n9", "show\n"):
            self.check_wrong(command)
        self.assert_error(InvalidName, {"name": "ann\n"}, self.console.run, "cancel ann\n")

    def test_what_is_no_number(self):
        for form in NUMBER_COMMANDS:
            for word in (*NO_NUMBERS, ""):
                self.check_wrong(form.format(word))
        for word in NO_NUMBERS:
            self.check_wrong(f"book zoe {word} {word}")
            self.check_wrong(f"trip {word} {word}")

    def test_invalid_commands_come_before_other_errors(self):
        for command in ("book Ann 0 03", "book ann 00 3", "exchange zoe -1", "shift zoe x", "cancel ", "book  0 1",
                        "seats 0 0", "seats 021", "undo 1", "trip 5 04", "load -1", "book ANN 5 +5"):
            self.check_wrong(command)

    def test_errors_of_the_methods(self):
        run = self.console.run
        for command, kind, fields in (
                ("book Ann 0 1", InvalidName, {"name": "Ann"}), ("book a1 9 1", InvalidName, {"name": "a1"}),
                ("book zoe 3 3", InvalidStation, {"station": 3}),
                ("book zoe 3 0", InvalidStation, {"station": 0}), ("book ann 3 2", InvalidStation, {"station": 2}),
                ("book ann 5 6", NameTaken, {"name": "ann"}), ("book zoe 0 9", Full, {"station": 2}),
                ("book abcdefghi 0 1", InvalidName, {"name": "abcdefghi"}), ("book 1 0 1", InvalidName, {"name": "1"}),
                ("book a\nb 0 1", InvalidName, {"name": "a\nb"}),
                ("cancel zoe", InvalidName, {"name": "zoe"}), ("cancel 1", InvalidName, {"name": "1"}),
                ("cancel ann\n", InvalidName, {"name": "ann\n"}), ("cancel Ann", InvalidName, {"name": "Ann"}),
                ("exchange zoe 1", InvalidName, {"name": "zoe"}), ("exchange ann 1", InvalidSeat, {"seat": 1}),
                ("exchange ann 0", InvalidSeat, {"seat": 0}), ("exchange ann 3", InvalidSeat, {"seat": 3}),
                (f"exchange ann {FAR}", InvalidSeat, {"seat": FAR}), ("exchange zoe 99", InvalidName, {"name": "zoe"}),
                ("shift zoe 1", InvalidName, {"name": "zoe"}), ("shift ann 1", InvalidSeat, {"seat": 1}),
                ("shift ann 0", InvalidSeat, {"seat": 0}), ("shift ann 2", NotFree, {"name": "ann"}),
                ("seats 0", InvalidSeats, {"value": 0}), ("seats 21", InvalidSeats, {"value": 21}),
                (f"seats {FAR}", InvalidSeats, {"value": FAR}), ("seats 1", Overfull, {"station": 2}),
                ("trip 3 3", InvalidStation, {"station": 3}), ("trip 3 2", InvalidStation, {"station": 2}),
                ("trip 0 0", InvalidStation, {"station": 0}), (f"trip {FAR} {FAR}", InvalidStation, {"station": FAR})):
            self.assert_error(kind, fields, run, command)
            self.check_state(self.console, self.desk)

    def test_nothing_to_undo(self):
        console = Console(2)
        for _ in range(2):
            self.assert_error(NothingToUndo, {}, console.run, "undo")
            self.assertEqual([console.run("book ann 0 1"), console.run("undo")], ["ann=1", "-"])

    def test_too_many_entries(self):
        console = Console(2)
        for _ in range(100):
            self.assertEqual(console.run("seats 2"), "-")
        for command in ("seats 2", "book ann 0 1"):
            self.assert_error(TooManyEntries, {"found": 101}, console.run, command)
        self.assertEqual([console.run("undo"), console.run("book ann 0 1")], ["-", "ann=1"])

    def test_long_texts(self):
        for command in ("x" * 5000, "show" * 1250, " " * 5000, "cancel " * 700, "book " + "a" * 4000):
            self.check_wrong(command)
        self.assert_error(InvalidName, {"name": "a" * 4900}, self.console.run, "cancel " + "a" * 4900)


if __name__ == "__main__":
    unittest.main()
