"""Line.read: from a text to its line."""

import re
import string
import unittest

from seatchains.errors import InvalidText
from seatchains.lines import Line
from tests.samples import FAR, NOT_TEXTS, SIGNS, TRIPS_24, ErrorCase

TEXTS = [
    "1", "9", "10", "19", "20", "2 ann:0-3", "2 ann:0-3 bob:2-5 carl:3-4", "20 a:10-11 b:9-100 bb:0-1",
    "3 abcdefgh:1-20 z:0-" + "9" * 70, "3 a:" + "8" * 70 + "-" + "9" * 70,
]

# None of these is the text of a line.
WRONG = [
    "", " ", "\n", "0", "21", "22", "99", "100", "00", "01", "02", "020", "+2", "-2", "--2", " 2", "2 ", "2  ", "\n2",
    "2\n", "2.", "2,", "2_0", "1_0", "0x2", "two", "ann", "ann:0-3", " ann:0-3", "2ann:0-3", "0 ann:0-3", "21 ann:0-3",
    "02 ann:0-3", "+2 ann:0-3", "-2 ann:0-3", " 2 ann:0-3", "2 ann:0-3 ", "2  ann:0-3", "2\nann:0-3", "2 ann:0-3\n",
    "2 ann:0-3  bob:2-5", "2 ann:0-3,bob:2-5", "2 ann:0-3\nbob:2-5", "2, ann:0-3", "2: ann:0-3", "2 ann",
    "2 ann:", "2 ann:0", "2 ann:0-", "2 ann:-3", "2 ann:-", "2 :0-3", "2 :", "2 :-", "2 -", "2 ann-0-3", "2 ann:0:3",
    "2 ann0-3", "2 ann:03", "2 ann 0 3", "2 ann:0 3", "2 ann :0-3", "2 ann: 0-3", "2 ann:0 -3", "2 ann:0- 3",
    "2 ann::0-3", "2 ann:0--3", "2 ann:-0-3", "2 ann:+0-3", "2 ann:0-+3", "2 ann:0-3-4", "2 ann:0-3:4",
    "2 ann:00-3", "2 ann:0-03", "2 ann:01-3", "2 ann:1-1_0", "2 ann:1_0-20", "2 ann:0x0-3", "2 ann:0-3.", "2 ann:0-b",
    "2 ann:a-3", "2 ann:3-3", "2 ann:0-0", "2 ann:4-3", "2 ann:10-9", "2 Ann:0-3", "2 anN:0-3", "2 an1:0-3",
    "2 an-n:0-3", "2 an_n:0-3", "2 'ann':0-3", "2 abcdefghi:0-3", "2 ann:0-3 ann:0-3", "2 ann:0-3 ann:5-6",
    "2 bob:2-5 ann:0-3", "2 ann:0-3 carl:3-4 bob:2-5", "2 ab:0-1 a:0-1", "2 ann:0-3 2", "2 2", "2 2 ann:0-3",
    "Line('2')", "2 ann:0-3 bob", "2 bob ann:0-3", "(2, ())", "2 ('ann', 0, 3)", "None", "None ann:0-3", "2 ann:None-3",
    "2 ann:0-None", "True", "2 ann:0-True", "2 ann:False-3",
]

NUMBER = "(?:0|[1-9][0-9]*)"
TEXT = re.compile(f"({NUMBER})((?: [a-z]{{1,8}}:{NUMBER}-{NUMBER})*)")


def line_of(text):
    """Return seats and trips of the line with this text, or None if there is none."""
    found = TEXT.fullmatch(text)
    if found is None or not 1 <= int(found[1]) <= 20:
        return None
    trips = [re.fullmatch("(.*):(.*)-(.*)", word).groups() for word in found[2].split()]
    trips = tuple((name, int(start), int(end)) for name, start, end in trips)
    names = [name for name, _, _ in trips]
    if names != sorted(set(names)) or len(names) > 24 or any(start >= end for _, start, end in trips):
        return None
    return int(found[1]), trips


def changed(text):
    """Return the texts with one sign put in, left out or exchanged."""
    put_in = [text[:at] + sign + text[at:] for at in range(len(text) + 1) for sign in SIGNS]
    left_out = [text[:at] + text[at + 1:] for at in range(len(text))]
    exchanged = [text[:at] + sign + text[at + 1:] for at in range(len(text)) for sign in SIGNS]
    return put_in + left_out + exchanged


class ReadTest(ErrorCase):

    def check(self, text):
        worth = line_of(text)
        if worth is None:
            self.assert_error(InvalidText, {"text": text}, Line.read, text)
        else:
            line = Line.read(text)
            self.assertEqual((line.capacity, line.trips, str(line)), (*worth, text))

    def test_lines(self):
        self.assertEqual(Line.read("2 ann:0-3 bob:2-5"), Line(2, (("ann", 0, 3), ("bob", 2, 5))))
        self.assertEqual(Line.read(text="7"), Line(7))
        self.assertEqual(Line(3).read("7 a:0-1"), Line(7, (("a", 0, 1),)))
        self.assertEqual(Line.read("1 a:0-" + "9" * 70).trips, (("a", 0, FAR),))
        self.assertIs(type(Line.read("2")), Line)

    def test_the_text_of_a_line_leads_back_to_the_line(self):
        for text in TEXTS:
            self.assertIsNotNone(line_of(text))
            self.check(text)
        for seats in range(1, 21):
            for many in (0, 1, 2, 23, 24):
                line = Line(seats, TRIPS_24[:many])
                self.assertEqual(Line.read(str(line)), line)

    def test_too_many_trips(self):
        text = str(Line(20, TRIPS_24)) + " z:0-1"
        self.assert_error(InvalidText, {"text": text}, Line.read, text)
        self.assert_error(InvalidText, {"text": text + " zz:0-1"}, Line.read, text + " zz:0-1")

    def test_numbers_of_seats(self):
        for seats in range(120):
            self.check(str(seats))
            self.check(f"{seats} ann:0-3")

    def test_wrong_texts(self):
        for text in WRONG:
            self.assertIsNone(line_of(text), text)
            self.check(text)

    def test_one_sign_put_in_left_out_or_exchanged(self):
        for text in ("2", "20", "3 ann:4-6", "12 a:10-11 bb:9-100 c:0-1"):
            for other in changed(text):
                self.check(other)

    def test_names_in_other_orders(self):
        words = ["a:0-1", "b:0-1", "c:5-6"]
        for first in words:
            for second in words:
                for third in words:
                    self.check(f"2 {first} {second} {third}")

    def test_each_letter_of_a_name(self):
        for letter in string.printable[:95].replace("%", ""):
            self.check(f"2 {letter}:0-3")
            self.check(f"2 ann{letter}:0-3")

    def test_values_that_are_no_text(self):
        for thing in [*NOT_TEXTS, Line(2), ["2 ann:0-3"], ("2",), b"2 ann:0-3", ["2", "ann:0-3"]]:
            self.assert_error(InvalidText, {"text": thing}, Line.read, thing)

    def test_the_same_text_twice(self):
        self.assertEqual(Line.read("2 ann:0-3"), Line.read("2 ann:0-3"))
        self.assert_error(InvalidText, {"text": "2 ann"}, Line.read, "2 ann")
        self.assert_error(InvalidText, {"text": "2 ann"}, Line.read, "2 ann")


if __name__ == "__main__":
    unittest.main()
