"""-1 and -2, their order, and that a refused call leaves everything as it was."""

import unittest

from tests.helper import (
    ANNUL, AWARD, BACK, BID, BILLION, CHAIN, GRANT, GREAT, GROUP, HOUSE, JOIN, KEEP, LINE, MONEY, MOST, OPEN, OUTAGE,
    PASS, PAYIN, PAYOUT, RIGHTS, ROOMS, SETTLE, STATE, TIGHT, UNBID, VALUE, VIA,
    bid, group, last, obligation, option, payout, run, settle, thirty_rights, told_of, value, wide, with_row,
)

ZONE = (0, 5)
OWNER = (0, 7)
ROOM = (0, BILLION)
AMOUNT = (1, BILLION)
PRICE = (-1000000, 1000000)
KIND = (0, 1)
LINE_NUMBER = (0, 9)
RIGHT = (1, BILLION)
BID_NUMBER = (1, BILLION)
FLOW = (-BILLION, BILLION)
MARK = (0, 1)

RANGES = {
    OPEN: ((2, 6),),
    LINE: (ZONE, ZONE, ROOM, ROOM),
    ROOMS: (LINE_NUMBER, ROOM, ROOM),
    OUTAGE: (LINE_NUMBER, ROOM, ROOM),
    GRANT: (OWNER, ZONE, ZONE, KIND, AMOUNT, PRICE),
    MOST: (ZONE, ZONE),
    BACK: (RIGHT, AMOUNT),
    KEEP: (RIGHT,),
    PASS: (RIGHT, OWNER, AMOUNT, PRICE),
    JOIN: (RIGHT, RIGHT),
    CHAIN: (RIGHT, RIGHT, AMOUNT),
    VIA: (RIGHT, ZONE),
    ANNUL: (RIGHT, RIGHT, AMOUNT),
    BID: (OWNER, ZONE, ZONE, KIND, AMOUNT, PRICE),
    UNBID: (BID_NUMBER,),
    AWARD: (),
    SETTLE: (),
    PAYOUT: (),
    VALUE: (RIGHT,),
    GROUP: (),
    TIGHT: (),
    MONEY: (OWNER,),
    PAYIN: (OWNER, (-10 ** 15, 10 ** 15)),
    HOUSE: (),
    RIGHTS: (OWNER,),
    STATE: (),
}
ROW_RANGES = {SETTLE: (PRICE, FLOW), PAYOUT: (PRICE,), VALUE: (PRICE,), GROUP: (MARK,)}

# A call of each place that says nothing wrong in its numbers, but for its rows.
PLAIN = {
    OPEN: (OPEN, 2),
    LINE: (LINE, 0, 1, 1, 1),
    ROOMS: (ROOMS, 0, 1, 1),
    OUTAGE: (OUTAGE, 0, 1, 1),
    GRANT: (GRANT, 0, 0, 1, 0, 1, 0),
    MOST: (MOST, 0, 1),
    BACK: (BACK, 1, 1),
    KEEP: (KEEP, 1),
    PASS: (PASS, 1, 1, 1, 0),
    JOIN: (JOIN, 1, 2),
    CHAIN: (CHAIN, 1, 2, 1),
    VIA: (VIA, 1, 2),
    ANNUL: (ANNUL, 1, 2, 1),
    BID: (BID, 0, 0, 1, 0, 1, 0),
    UNBID: (UNBID, 1),
    AWARD: (AWARD,),
    SETTLE: (SETTLE,),
    PAYOUT: (PAYOUT,),
    VALUE: (VALUE, 1),
    GROUP: (GROUP,),
    TIGHT: (TIGHT,),
    MONEY: (MONEY, 0),
    PAYIN: (PAYIN, 0, 1),
    HOUSE: (HOUSE,),
    RIGHTS: (RIGHTS, 0),
    STATE: (STATE,),
}
PLAIN_ROWS = {SETTLE: [[0, 0, 0], [0, 0, 0]], PAYOUT: [[0, 0, 0]], VALUE: [[0, 0, 0]], GROUP: [[0, 0, 0]]}

# Lines 0 to 2, rights 1 to 5 of owners 0 and 1, bids 1 and 2 of owners 2 and 3; owner 0 has 6, owner 1 has 30,
# owner 2 has 40, of which 20 are held. The accounts are 16, -42 and -50.
BUSY = [
    (OPEN, 3), (LINE, 0, 1, 20, 4), (LINE, 1, 2, 20, 4), (LINE, 0, 2, 6, 6),
    obligation(0, 1, 6, owner=0, price=-2), obligation(1, 2, 6, owner=0), option(0, 1, 5, owner=1, price=-6),
    obligation(1, 0, 8, owner=0), option(0, 2, 7, owner=1),
    (PAYIN, 2, 40), bid(0, 1, 5, price=4, owner=2), bid(2, 1, 3, price=-1, owner=3, kind=1),
    settle([0, 0, -1], [1, -4, -6]),
]
TEN_BIDS = BUSY + [bid(0, 1, 1, owner=5)] * 8
FULL_HOUSE = wide(3) + thirty_rights()[:27] + [
    option(0, 1, 3, owner=1), option(1, 2, 3, owner=1), option(0, 1, 9, owner=0, price=-1),
]

# The house, the refused call, its answer.
REFUSED = [
    (BUSY, (OPEN, 7), -1),
    (BUSY, (OPEN, 1), -1),
    (BUSY, (LINE, 0, 3, 5, 5), -3),
    (BUSY, (LINE, 1, 1, 5, 5), -3),
    (BUSY + [(LINE, 0, 1, 1, 1)] * 7, (LINE, 0, 1, 5, 5), -5),
    (BUSY, (ROOMS, 3, 30, 30), -3),
    (BUSY, (ROOMS, 0, 0, 30), -7),
    (BUSY, (OUTAGE, 3, 30, 30), -3),
    (BUSY + [(BACK, 4, 8), obligation(0, 1, 8)], (OUTAGE, 0, 0, 0), -7),
    (BUSY, (GRANT, 1, 0, 3, 0, 1, -5), -3),
    (FULL_HOUSE, (GRANT, 1, 0, 1, 0, 1, -5), -5),
    (BUSY, (GRANT, 1, 0, 1, 0, 31, 1), -6),
    (BUSY, (GRANT, 1, 0, 1, 0, 30, 1), -7),
    (BUSY, (GRANT, 1, 0, 1, 0, 30, -1), -7),
    (BUSY, (MOST, 0, 3), -3),
    (BUSY, (BACK, 6, 1), -3),
    (BUSY, (BACK, 1, 7), -4),
    (BUSY[:4] + [obligation(0, 1, 20), obligation(1, 0, 24), obligation(0, 2, 6)], (BACK, 1, 20), -7),
    (BUSY, (KEEP, 6), -3),
    (BUSY, (PASS, 6, 1, 1, 0), -3),
    (BUSY, (PASS, 1, 1, 7, 0), -4),
    (BUSY, (PASS, 1, 0, 6, 0), -4),
    (FULL_HOUSE, (PASS, 1, 1, 1, 0), -5),
    (BUSY, (PASS, 1, 1, 6, 6), -6),
    (BUSY, (PASS, 1, 1, 1, 31), -6),
    (BUSY, (PASS, 1, 1, 6, -2), -6),
    (BUSY, (PASS, 1, 1, 1, -7), -6),
    (BUSY, (PASS, 1, 2, 6, 4), -6),
    (BUSY, (JOIN, 1, 6), -3),
    (BUSY, (JOIN, 1, 1), -4),
    (BUSY, (JOIN, 1, 2), -4),
    (BUSY, (CHAIN, 1, 6, 1), -3),
    (BUSY, (CHAIN, 1, 2, 7), -4),
    (BUSY, (CHAIN, 1, 4, 1), -4),
    (FULL_HOUSE, (CHAIN, 28, 29, 2), -5),
    (BUSY, (VIA, 6, 1), -3),
    (BUSY, (VIA, 5, 2), -4),
    (FULL_HOUSE, (VIA, 1, 2), -5),
    (BUSY[:4] + [option(0, 1, 20), option(0, 2, 6)], (VIA, 2, 1), -7),
    (BUSY, (ANNUL, 1, 6, 1), -3),
    (BUSY, (ANNUL, 1, 4, 7), -4),
    (BUSY, (ANNUL, 1, 2, 1), -4),
    (BUSY, bid(0, 3, 1, price=-5, owner=3), -3),
    (BUSY, bid(1, 1, 1), -3),
    (TEN_BIDS, bid(0, 1, 1), -5),
    (BUSY, bid(0, 1, 31, price=1, owner=1), -6),
    (BUSY, bid(0, 1, 21, price=1, owner=2), -6),
    (BUSY, (GRANT, 2, 0, 1, 0, 21, 1), -6),
    (BUSY, (UNBID, 3), -3),
    (BUSY, settle([0, 0], [0, 0, 0]), -4),
    (BUSY, settle([0, 0, 0], [0, 0]), -4),
    (BUSY, settle([0, 0, 1], [0, 20, 5]), -8),
    (BUSY, settle([0, 0, 1], [21, 20, 6]), -8),
    (BUSY, payout([0, 1]), -4),
    (BUSY, value(6, [0, 1, 2]), -3),
    (BUSY, value(1, [0, 1]), -4),
    (BUSY, group([0, 1]), -4),
    (BUSY, (PAYIN, 2, -21), -6),
]


READERS = [
    (MOST, 0, 1), (KEEP, 1), payout([3, 1, 2]), value(1, [3, 1, 2]), group([0, 1, 1]), (TIGHT,), (MONEY, 2), (HOUSE,),
    (RIGHTS, 0), (STATE,),
]


def out_of_range(low, high):
    return (low - 1, high + 1, -GREAT, GREAT)


def changed(call, spot, number):
    return call[:spot] + (number,) + call[spot + 1:]


def with_rows(call, rows):
    for row in rows:
        call = with_row(call, row)
    return call


def plain(place):
    return with_rows(PLAIN[place], PLAIN_ROWS.get(place, []))


def with_number(place, spot, number):
    return with_rows(changed(PLAIN[place], spot, number), PLAIN_ROWS.get(place, []))


def with_other_row(place, which, row):
    rows = list(PLAIN_ROWS[place])
    rows[which] = row
    return with_rows(PLAIN[place], rows)


class OutOfRange(unittest.TestCase):
    def test_each_call_is_there(self):
        self.assertEqual(list(RANGES), list(range(26)))
        self.assertEqual(list(PLAIN), list(range(26)))

    def test_each_number_of_each_call(self):
        for place, bounds in RANGES.items():
            for spot, (low, high) in enumerate(bounds, start=1):
                for number in out_of_range(low, high):
                    call = with_number(place, spot, number)
                    with self.subTest(call=call):
                        self.assertEqual(last(BUSY + [call]), [-1])
                        self.assertEqual(last([call]), [-1])

    def test_the_ends_of_each_range_are_within(self):
        for place, bounds in RANGES.items():
            for spot, (low, high) in enumerate(bounds, start=1):
                for number in (low, high):
                    call = with_number(place, spot, number)
                    with self.subTest(call=call):
                        self.assertNotEqual(last(BUSY + [call]), [-1])

    def test_each_number_of_each_row(self):
        """In rows as long as they should be, and in shorter and longer ones."""
        for place, bounds in ROW_RANGES.items():
            for which, (low, high) in enumerate(bounds):
                for number in out_of_range(low, high):
                    for length in (1, 2, 3, 4, 64):
                        for spot in {0, 1, length // 2, length - 1}:
                            row = [0] * length
                            row[spot:spot + 1] = [number]
                            call = with_other_row(place, which, row)
                            with self.subTest(call=call):
                                self.assertEqual(last(BUSY + [call]), [-1])
                                self.assertEqual(last([call]), [-1])

    def test_the_ends_of_each_row_s_range_are_within(self):
        for place, bounds in ROW_RANGES.items():
            for which, (low, high) in enumerate(bounds):
                for number in (low, high):
                    for length in (3, 64):
                        call = with_other_row(place, which, [number] * length)
                        with self.subTest(call=call):
                            self.assertNotEqual(last(BUSY + [call]), [-1])

    def test_rows_that_are_too_long(self):
        for place, bounds in ROW_RANGES.items():
            for which in range(len(bounds)):
                for length in (65, 66, 99, 100):
                    call = with_other_row(place, which, [0] * length)
                    self.assertEqual(last(BUSY + [call]), [-1])
                    self.assertEqual(last([call]), [-1])

    def test_rows_of_64_are_not_too_long(self):
        for place, bounds in ROW_RANGES.items():
            for which in range(len(bounds)):
                call = with_other_row(place, which, [0] * 64)
                self.assertEqual(last(BUSY + [call]), [-4])
                self.assertEqual(last([call]), [-2])

    def test_empty_rows(self):
        for place, bounds in ROW_RANGES.items():
            for which in range(len(bounds)):
                call = with_other_row(place, which, [])
                self.assertEqual(last(BUSY + [call]), [-4])
                self.assertEqual(last([call]), [-2])

    def test_behind_a_refused_row_the_next_call_is_found(self):
        for place, bounds in ROW_RANGES.items():
            for which in range(len(bounds)):
                for row in ([], [0] * 64, [0] * 65, [GREAT] * 100, [25] * 7):
                    told = run(BUSY + [with_other_row(place, which, row), (MOST, 0, 1)])
                    self.assertEqual(len(told), len(BUSY) + 2)
                    self.assertEqual(told[-1], last(BUSY + [(MOST, 0, 1)]))

    def test_a_number_and_a_row(self):
        self.assertEqual(last(BUSY + [value(0, [0] * 65)]), [-1])
        self.assertEqual(last(BUSY + [value(0, [0])]), [-1])
        self.assertEqual(last(BUSY + [value(9, [1000001])]), [-1])

    def test_ahead_of_all_other_refusals(self):
        self.assertEqual(last(BUSY + [(GRANT, 0, 0, 0, 0, BILLION + 1, 1000000)]), [-1])
        self.assertEqual(last(BUSY + [(PASS, 99, 8, 1, 0)]), [-1])
        self.assertEqual(last(BUSY + [(ROOMS, 9, -1, 0)]), [-1])
        self.assertEqual(last(BUSY + [(CHAIN, 99, 99, 0)]), [-1])
        self.assertEqual(last(BUSY + [(VIA, 99, 6)]), [-1])
        self.assertEqual(last(BUSY + [(ANNUL, 99, 0, 1)]), [-1])
        self.assertEqual(last(TEN_BIDS + [bid(0, 0, 1, price=1000001)]), [-1])
        self.assertEqual(last(BUSY + [settle([0], [BILLION + 1])]), [-1])
        self.assertEqual(last(BUSY + [settle([0, 0, 1000001], [0, 0, 0])]), [-1])
        self.assertEqual(last(BUSY + [payout([-1000001])]), [-1])
        self.assertEqual(last(BUSY + [group([2])]), [-1])
        self.assertEqual(last(BUSY + [(PAYIN, 0, -10 ** 15 - 1)]), [-1])


class NoHouse(unittest.TestCase):
    def test_each_call_but_open(self):
        for place in PLAIN:
            self.assertEqual(last([plain(place)]), [0] if place == OPEN else [-2])

    def test_ahead_of_the_refusals_told_with_each_call(self):
        for call in (
            (LINE, 0, 0, 1, 1), (ROOMS, 9, 1, 1), (OUTAGE, 9, 1, 1), (GRANT, 0, 5, 5, 0, 1, 1), (MOST, 0, 0), (BACK, 9, 1),
            (KEEP, 9), (PASS, 9, 1, 1, 1), (JOIN, 1, 1), (CHAIN, 1, 1, 1), (VIA, 1, 1), (ANNUL, 1, 1, 1),
            bid(0, 0, 1, price=1), bid(0, 1, 1, price=1), (UNBID, 9), settle([], [1]), settle([0, 0], [1]), payout([]),
            value(9, []), value(9, [0, 0]), group([]), (PAYIN, 0, -1),
        ):
            self.assertEqual(last([call]), [-2])

    def test_a_refused_open_opens_nothing(self):
        self.assertEqual(run([(OPEN, 1), (MOST, 0, 1), (OPEN, 7), (LINE, 0, 1, 1, 1)]), [[-1], [-2], [-1], [-2]])

    def test_nothing_is_left_of_calls_ahead_of_open(self):
        ahead = [(LINE, 0, 1, 9, 9), obligation(0, 1, 1), bid(0, 1, 1), (PAYIN, 0, 5), (AWARD,)]
        self.assertEqual(run(ahead), [[-2]] * 5)
        self.assertEqual(told_of(ahead + [(OPEN, 2)]), told_of([(OPEN, 2)]))


class LeavesEverything(unittest.TestCase):
    def test_houses_are_as_told(self):
        for house in (BUSY, FULL_HOUSE, TEN_BIDS):
            self.assertTrue(all(answer[0] == 0 for answer in run(house)))
        self.assertEqual(told_of(BUSY)[:5], [
            [0, 3, 6, 3, 12, 0, 1, 20, 4, 1, 2, 20, 4, 0, 2, 6, 6,
             30, 1, 0, 0, 1, 0, 6, 2, 0, 1, 2, 0, 6, 3, 1, 0, 1, 1, 5, 4, 0, 1, 0, 0, 8, 5, 1, 0, 2, 1, 7,
             14, 1, 2, 0, 1, 0, 5, 4, 2, 3, 2, 1, 1, 3, -1],
            [0, 16, -42, -50], [0, 6, 6], [0, 30, 30], [0, 40, 20],
        ])

    def test_refused_calls(self):
        for house, call, answer in REFUSED:
            with self.subTest(call=call, answer=answer):
                told = run(house + [call])
                self.assertEqual(told[-1], [answer])
                self.assertTrue(all(part[0] == 0 for part in told[:-1]))
                self.assertEqual(told_of(house + [call]), told_of(house))

    def test_each_refusal_of_each_call_is_there(self):
        """The table above holds each refusal that is told with a call."""
        found = {(call[0], answer) for house, call, answer in REFUSED}
        asked = {
            LINE: (-3, -5), ROOMS: (-3, -7), OUTAGE: (-3, -7), GRANT: (-3, -5, -6, -7), MOST: (-3,),
            BACK: (-3, -4, -7), KEEP: (-3,), PASS: (-3, -4, -5, -6), JOIN: (-3, -4), CHAIN: (-3, -4, -5),
            VIA: (-3, -4, -5, -7), ANNUL: (-3, -4), OPEN: (-1,), BID: (-3, -5, -6), UNBID: (-3,), SETTLE: (-4, -8),
            PAYOUT: (-4,), VALUE: (-3, -4), GROUP: (-4,), PAYIN: (-6,),
        }
        self.assertEqual(found, {(place, answer) for place, told in asked.items() for answer in told})

    def test_calls_out_of_range(self):
        for place, bounds in RANGES.items():
            for spot, (low, high) in enumerate(bounds, start=1):
                for number in (low - 1, high + 1):
                    self.assertEqual(told_of(BUSY + [with_number(place, spot, number)]), told_of(BUSY))

    def test_rows_out_of_range_and_too_long(self):
        for place, bounds in ROW_RANGES.items():
            for which, (low, high) in enumerate(bounds):
                for row in ([low - 1, 0, 0], [0, 0, high + 1], [0] * 65, [0] * 100):
                    self.assertEqual(told_of(BUSY + [with_other_row(place, which, row)]), told_of(BUSY))


class ChangesNothing(unittest.TestCase):
    def test_the_calls_that_only_tell(self):
        for house in (BUSY, BUSY[:1]):
            for call in READERS:
                with self.subTest(call=call):
                    self.assertEqual(told_of(house + [call]), told_of(house))

    def test_they_are_accepted_and_tell_the_same_again(self):
        for call in READERS:
            told = run(BUSY + [call, call])
            self.assertEqual(told[-1][0], 0)
            self.assertEqual(told[-1], told[-2])


class OpenAgain(unittest.TestCase):
    def test_all_that_was_there_is_gone(self):
        for house in (BUSY, FULL_HOUSE, TEN_BIDS):
            for zones in (2, 3, 6):
                self.assertEqual(told_of(house + [(OPEN, zones)]), told_of([(OPEN, zones)]))
        self.assertEqual(told_of(BUSY + [(OPEN, 4)]), [[0, 4, 1, 1, 0, 0, 0], [0, 0, 0, 0]] + [[0, 0, 0]] * 8)

    def test_the_same_calls_again_answer_the_same(self):
        self.assertEqual(run(BUSY + BUSY), run(BUSY) + run(BUSY))


if __name__ == "__main__":
    unittest.main()
