"""The constants of limits.py."""

import unittest

from seatchains import limits


class LimitsTest(unittest.TestCase):

    def test_values(self):
        found = [limits.MAX_SEATS, limits.MAX_TRIPS, limits.FEW_PLANS, limits.MAX_ENTRIES]
        self.assertEqual(found, [20, 24, 2000, 100])

    def test_they_are_integers(self):
        for worth in (limits.MAX_SEATS, limits.MAX_TRIPS, limits.FEW_PLANS, limits.MAX_ENTRIES):
            self.assertIs(type(worth), int)


if __name__ == "__main__":
    unittest.main()
