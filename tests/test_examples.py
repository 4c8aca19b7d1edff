"""The document's examples."""

import unittest

from tests.helper import (
    BACK, KEEP, LINE, MOST, OPEN, OPTION, RIGHTS, VIA, last, obligation, option, payout, run, settle, two_zones, value,
)


class TwoZones(unittest.TestCase):
    def test_step_by_step(self):
        told = run(two_zones(10, 4) + [
            (MOST, 0, 1), obligation(0, 1, 10), (MOST, 0, 1), (MOST, 1, 0),
            obligation(1, 0, 6), (MOST, 0, 1), obligation(0, 1, 6), (KEEP, 2), (BACK, 2, 1),
        ])
        self.assertEqual(told, [
            [0], [0, 0],
            [0, 10], [0, 1], [0, 0], [0, 14],
            [0, 2], [0, 6], [0, 3], [0, 6], [-7],
        ])

    def test_payouts_are_as_the_earnings_are(self):
        house = two_zones(10, 4) + [obligation(0, 1, 10), obligation(1, 0, 6), obligation(0, 1, 6)]
        self.assertEqual(last(house + [payout([20, 50])]), [0, 300, 300])
        told = run(house + [value(1, [20, 50]), value(2, [20, 50]), value(3, [20, 50]), settle([20, 50], [10])])
        self.assertEqual(told[-4:], [[0, 300], [0, -180], [0, 180], [0, 300, 300]])

    def test_an_option_instead(self):
        told = run(two_zones(10, 4) + [obligation(0, 1, 10), option(1, 0, 4), (MOST, 0, 1)])
        self.assertEqual(told[-2:], [[0, 2], [0, 0]])


class ThreeZones(unittest.TestCase):
    CHAIN = [(OPEN, 3), (LINE, 0, 1, 5, 0), (LINE, 1, 2, 5, 0)]

    def test_the_most(self):
        self.assertEqual(last(self.CHAIN + [(MOST, 0, 2)]), [0, 5])

    def test_beside_an_option(self):
        told = run(self.CHAIN + [option(0, 2, 3), (MOST, 0, 1), (MOST, 1, 2)])
        self.assertEqual(told[-3:], [[0, 1], [0, 2], [0, 2]])

    def test_via(self):
        told = run(self.CHAIN + [option(0, 2, 3), (VIA, 1, 1), (RIGHTS, 0)])
        self.assertEqual(told[-2:], [[0, 2, 3], [0, 10, 2, 0, 1, OPTION, 3, 3, 1, 2, OPTION, 3]])


class Readme(unittest.TestCase):
    def test_the_first_example(self):
        told = run([(OPEN, 2), (LINE, 0, 1, 10, 4), obligation(0, 1, 10), (MOST, 1, 0), payout([20, 50])])
        self.assertEqual(told, [[0], [0, 0], [0, 1], [0, 14], [0, 300, 300]])


if __name__ == "__main__":
    unittest.main()
