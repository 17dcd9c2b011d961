"""The examples of the document, as it shows them."""

import unittest

from tests.samples import ErrorCase


class LinesExamplesTest(ErrorCase):

    def test_first(self):
        from seatchains.lines import Line
        line = Line.read("2 ann:0-3 bob:2-5 carl:3-4")
        self.assertEqual(
            repr([line.trips, line.order, line.peak, line.load(2), line.load(9), len(line)]),
            "[(('ann', 0, 3), ('bob', 2, 5), ('carl', 3, 4)), ('ann', 'bob', 'carl'), 2, 2, 0, 3]")

    def test_second(self):
        from seatchains.lines import Line
        line = Line.made(3, ("bob", 2, 5), ("ann", 4, 6))
        self.assertEqual(
            repr([str(line), list(line.walk()), repr(line.without("bob").added("zoe", 0, 9)), Line.is_name("Bob")]),
            "['3 ann:4-6 bob:2-5', [('bob', 2, 5), ('ann', 4, 6)], \"Line('3 ann:4-6 zoe:0-9')\", False]")

    def test_third(self):
        from seatchains.errors import InvalidTrips
        from seatchains.lines import Line
        self.assert_error(InvalidTrips, {"index": 1}, Line, 2, (("bob", 2, 5), ("ann", 4, 6)))


if __name__ == "__main__":
    unittest.main()
