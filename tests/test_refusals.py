"""-1 and -2, their order, and that a refused call leaves everything as it was."""

import unittest

from tests.helper import (
    ANNUL, BACK, BILLION, CHAIN, GRANT, GREAT, JOIN, KEEP, LINE, MOST, OBLIGATION, OPEN, OUTAGE, PASS, ROOMS, VIA,
    last, obligation, option, probes, run, thirty_rights, wide,
)

ZONE = (0, 5)
OWNER = (0, 7)
ROOM = (0, BILLION)
AMOUNT = (1, BILLION)
PRICE = (-1000000, 1000000)
KIND = (0, 1)
LINE_NUMBER = (0, 9)
RIGHT = (1, BILLION)

RANGES = {
    OPEN: ((2, 6),),
    LINE: (ZONE, ZONE, ROOM, ROOM),
    ROOMS: (LINE_NUMBER, ROOM, ROOM),
    OUTAGE: (LINE_NUMBER, ROOM, ROOM),
    GRANT: (OWNER, ZONE, ZONE, KIND, AMOUNT, PRICE),
    MOST: (ZONE, ZONE),
    BACK: (RIGHT, AMOUNT),
    KEEP: (RIGHT,),
    PASS: (RIGHT, OWNER, AMOUNT, PRICE),
    JOIN: (RIGHT, RIGHT),
    CHAIN: (RIGHT, RIGHT, AMOUNT),
    VIA: (RIGHT, ZONE),
    ANNUL: (RIGHT, RIGHT, AMOUNT),
}

# A call of each place that says nothing wrong in its numbers.
PLAIN = {
    OPEN: (OPEN, 2),
    LINE: (LINE, 0, 1, 1, 1),
    ROOMS: (ROOMS, 0, 1, 1),
    OUTAGE: (OUTAGE, 0, 1, 1),
    GRANT: (GRANT, 0, 0, 1, 0, 1, 0),
    MOST: (MOST, 0, 1),
    BACK: (BACK, 1, 1),
    KEEP: (KEEP, 1),
    PASS: (PASS, 1, 1, 1, 0),
    JOIN: (JOIN, 1, 2),
    CHAIN: (CHAIN, 1, 2, 1),
    VIA: (VIA, 1, 2),
    ANNUL: (ANNUL, 1, 2, 1),
}

# Lines 0 to 2, and rights 1 to 5 of owners 0 and 1; owner 0 has 12, owner 1 has 30.
HOUSE = [
    (OPEN, 3), (LINE, 0, 1, 20, 4), (LINE, 1, 2, 20, 4), (LINE, 0, 2, 6, 6),
    obligation(0, 1, 6, owner=0, price=-2), obligation(1, 2, 6, owner=0), option(0, 1, 5, owner=1, price=-6),
    obligation(1, 0, 8, owner=0), option(0, 2, 7, owner=1),
]
FULL_HOUSE = wide(3) + thirty_rights()[:27] + [
    option(0, 1, 3, owner=1), option(1, 2, 3, owner=1), option(0, 1, 9, owner=0, price=-1),
]

# The house, the refused call, its answer.
REFUSED = [
    (HOUSE, (OPEN, 7), -1),
    (HOUSE, (OPEN, 1), -1),
    (HOUSE, (LINE, 0, 3, 5, 5), -3),
    (HOUSE, (LINE, 1, 1, 5, 5), -3),
    (HOUSE + [(LINE, 0, 1, 1, 1)] * 7, (LINE, 0, 1, 5, 5), -5),
    (HOUSE, (ROOMS, 3, 30, 30), -3),
    (HOUSE, (ROOMS, 0, 0, 30), -7),
    (HOUSE, (OUTAGE, 3, 30, 30), -3),
    (HOUSE + [(BACK, 4, 8), obligation(0, 1, 8)], (OUTAGE, 0, 0, 0), -7),
    (HOUSE, (GRANT, 1, 0, 3, 0, 1, -5), -3),
    (FULL_HOUSE, (GRANT, 1, 0, 1, 0, 1, -5), -5),
    (HOUSE, (GRANT, 1, 0, 1, 0, 31, 1), -6),
    (HOUSE, (GRANT, 1, 0, 1, 0, 30, 1), -7),
    (HOUSE, (GRANT, 1, 0, 1, 0, 30, -1), -7),
    (HOUSE, (MOST, 0, 3), -3),
    (HOUSE, (BACK, 6, 1), -3),
    (HOUSE, (BACK, 1, 7), -4),
    (HOUSE[:4] + [obligation(0, 1, 20), obligation(1, 0, 24), obligation(0, 2, 6)], (BACK, 1, 20), -7),
    (HOUSE, (KEEP, 6), -3),
    (HOUSE, (PASS, 6, 1, 1, 0), -3),
    (HOUSE, (PASS, 1, 1, 7, 0), -4),
    (HOUSE, (PASS, 1, 0, 6, 0), -4),
    (FULL_HOUSE, (PASS, 1, 1, 1, 0), -5),
    (HOUSE, (PASS, 1, 1, 6, 6), -6),
    (HOUSE, (PASS, 1, 1, 1, 31), -6),
    (HOUSE, (PASS, 1, 1, 6, -3), -6),
    (HOUSE, (PASS, 1, 1, 1, -13), -6),
    (HOUSE, (JOIN, 1, 6), -3),
    (HOUSE, (JOIN, 1, 1), -4),
    (HOUSE, (JOIN, 1, 2), -4),
    (HOUSE, (CHAIN, 1, 6, 1), -3),
    (HOUSE, (CHAIN, 1, 2, 7), -4),
    (HOUSE, (CHAIN, 1, 4, 1), -4),
    (FULL_HOUSE, (CHAIN, 28, 29, 2), -5),
    (HOUSE, (VIA, 6, 1), -3),
    (HOUSE, (VIA, 5, 2), -4),
    (FULL_HOUSE, (VIA, 1, 2), -5),
    (HOUSE[:4] + [option(0, 1, 20), option(0, 2, 6)], (VIA, 2, 1), -7),
    (HOUSE, (ANNUL, 1, 6, 1), -3),
    (HOUSE, (ANNUL, 1, 4, 7), -4),
    (HOUSE, (ANNUL, 1, 2, 1), -4),
]


def out_of_range(low, high):
    return (low - 1, high + 1, -GREAT, GREAT)


def changed(call, spot, number):
    return call[:spot] + (number,) + call[spot + 1:]


class OutOfRange(unittest.TestCase):
    def test_each_number_of_each_call(self):
        for place, bounds in RANGES.items():
            for spot, (low, high) in enumerate(bounds, start=1):
                for number in out_of_range(low, high):
                    call = changed(PLAIN[place], spot, number)
                    with self.subTest(call=call):
                        self.assertEqual(last(HOUSE + [call]), [-1])
                        self.assertEqual(last([call]), [-1])

    def test_the_ends_of_each_range_are_within(self):
        for place, bounds in RANGES.items():
            for spot, (low, high) in enumerate(bounds, start=1):
                for number in (low, high):
                    call = changed(PLAIN[place], spot, number)
                    with self.subTest(call=call):
                        self.assertNotEqual(last(HOUSE + [call]), [-1])

    def test_ahead_of_all_other_refusals(self):
        self.assertEqual(last(HOUSE + [(GRANT, 0, 0, 0, 0, BILLION + 1, 1000000)]), [-1])
        self.assertEqual(last(HOUSE + [(PASS, 99, 8, 1, 0)]), [-1])
        self.assertEqual(last(HOUSE + [(ROOMS, 9, -1, 0)]), [-1])
        self.assertEqual(last(HOUSE + [(CHAIN, 99, 99, 0)]), [-1])
        self.assertEqual(last(HOUSE + [(VIA, 99, 6)]), [-1])
        self.assertEqual(last(HOUSE + [(ANNUL, 99, 0, 1)]), [-1])


class NoHouse(unittest.TestCase):
    def test_each_call_but_open(self):
        for place, call in PLAIN.items():
            self.assertEqual(last([call]), [0] if place == OPEN else [-2])

    def test_ahead_of_the_refusals_told_with_each_call(self):
        for call in ((LINE, 0, 0, 1, 1), (ROOMS, 9, 1, 1), (GRANT, 0, 5, 5, 0, 1, 1), (MOST, 0, 0), (JOIN, 1, 1)):
            self.assertEqual(last([call]), [-2])

    def test_a_refused_open_opens_nothing(self):
        self.assertEqual(run([(OPEN, 1), (MOST, 0, 1), (OPEN, 7), (LINE, 0, 1, 1, 1)]), [[-1], [-2], [-1], [-2]])

    def test_nothing_is_left_of_calls_ahead_of_open(self):
        told = run([(LINE, 0, 1, 9, 9), obligation(0, 1, 1), (OPEN, 2), (MOST, 0, 1), (LINE, 0, 1, 9, 9),
                    obligation(0, 1, 1)])
        self.assertEqual(told, [[-2], [-2], [0], [0, 0], [0, 0], [0, 1]])


class LeavesEverything(unittest.TestCase):
    def test_houses_are_as_told(self):
        self.assertEqual(run(HOUSE)[4:], [[0, 1], [0, 2], [0, 3], [0, 4], [0, 5]])
        self.assertEqual(run(FULL_HOUSE)[-1], [0, 30])

    def test_refused_calls(self):
        for house, call, answer in REFUSED:
            with self.subTest(call=call, answer=answer):
                told = run(house + [call])
                self.assertEqual(told[-1], [answer])
                self.assertTrue(all(part[0] == 0 for part in told[:-1]))
                tail = probes(3)[:190 - len(house)]
                for part in (tail, probes(3)[len(tail):]):
                    self.assertEqual(run(house + [call] + part)[len(house) + 1:], run(house + part)[len(house):])

    def test_each_refusal_of_each_call_is_there(self):
        """The table above holds each refusal that is told with a call."""
        found = {(call[0], answer) for house, call, answer in REFUSED}
        asked = {
            LINE: (-3, -5), ROOMS: (-3, -7), OUTAGE: (-3, -7), GRANT: (-3, -5, -6, -7), MOST: (-3,),
            BACK: (-3, -4, -7), KEEP: (-3,), PASS: (-3, -4, -5, -6), JOIN: (-3, -4), CHAIN: (-3, -4, -5),
            VIA: (-3, -4, -5, -7), ANNUL: (-3, -4), OPEN: (-1,),
        }
        self.assertEqual(found, {(place, answer) for place, told in asked.items() for answer in told})

    def test_calls_out_of_range(self):
        for place, bounds in RANGES.items():
            for spot, (low, high) in enumerate(bounds, start=1):
                call = changed(PLAIN[place], spot, high + 1)
                part = probes(3)[:100] + [(GRANT, 0, 0, 1, OBLIGATION, 12, 1), (GRANT, 0, 0, 1, OBLIGATION, 13, 1)]
                self.assertEqual(run(HOUSE + [call] + part)[len(HOUSE) + 1:], run(HOUSE + part)[len(HOUSE):])


if __name__ == "__main__":
    unittest.main()
