"""zonerights.house.answers: how calls are handed in and answers are given back."""

import inspect
import unittest

import zonerights.house
from tests.helper import (
    ANNUL, AWARD, BACK, CHAIN, HOUSE, JOIN, KEEP, LINE, MONEY, MOST, OPEN, OUTAGE, PASS, PAYIN, RIGHTS, ROOMS, STATE,
    TIGHT, UNBID, VIA, bid, flat, group, obligation, option, payout, run, settle, two_zones, value, wide,
)
from zonerights.house import answers
from zonerights.layout import read_calls

CALLS = flat(two_zones(20, 5) + [
    obligation(0, 1, 5), option(0, 1, 4, price=-2), option(0, 1, 6), (KEEP, 1), (BACK, 2, 1), (MOST, 1, 0),
    (OUTAGE, 0, 7, 5), (ROOMS, 0, 1, 1), (OPEN, 9),
])

# Each of the 26 calls, accepted.
EACH = [
    (OPEN, 3), (LINE, 0, 1, 20, 9), (LINE, 1, 2, 20, 9), (ROOMS, 0, 21, 9), (OUTAGE, 1, 21, 9), (PAYIN, 1, 50),
    obligation(0, 1, 5, owner=1, price=1), obligation(1, 0, 4, owner=1), option(1, 2, 3), option(1, 2, 3), option(0, 1, 3),
    (MOST, 0, 1), (BACK, 3, 1), (KEEP, 1), (PASS, 1, 2, 2, 0), (JOIN, 3, 4), (CHAIN, 5, 3, 2), (VIA, 7, 1),
    (ANNUL, 1, 2, 1), bid(0, 2, 4, price=2, owner=1), bid(0, 2, 4), (UNBID, 2), (AWARD,), settle([1, 2, 2], [21, 0]),
    payout([1, 2, 3]), value(1, [3, 2, 1]), group([0, 1, 1]), (TIGHT,), (MONEY, 1), (HOUSE,), (RIGHTS, 1), (STATE,),
]


class Answers(unittest.TestCase):
    def test_name_and_argument(self):
        self.assertEqual(list(inspect.signature(zonerights.house.answers).parameters), ["calls"])

    def test_counts_and_answers_in_one_list(self):
        self.assertEqual(answers(CALLS), [
            1, 0,
            2, 0, 0,
            2, 0, 1,
            2, 0, 2,
            2, 0, 3,
            2, 0, 0,
            2, 0, 3,
            2, 0, 10,
            6, 0, 4, 2, 2, 3, 0,
            1, -7,
            1, -1,
        ])

    def test_each_call_in_one_list(self):
        self.assertEqual({call[0] for call in EACH}, set(range(26)))
        self.assertEqual(run(EACH), [
            [0], [0, 0], [0, 1], [0], [0, 0], [0, 50],
            [0, 1], [0, 2], [0, 3], [0, 4], [0, 5],
            [0, 17], [0, 2], [0, 0], [0, 6], [0, 5], [0, 7], [0, 8, 9],
            [0, 2, 3], [0, 1], [0, 2], [0], [0, 1, 3, 1, 10, 4], [0, 21, 8],
            [0, 17, 42], [0, -2], [0, 8, 21], [0, 12, 3, 0, 0, 1], [0, 40, 40], [0, 13, 13, -71],
            [0, 15, 1, 0, 1, 0, 2, 2, 1, 0, 0, 3, 10, 0, 2, 0, 4],
            [0, 3, 11, 3, 8, 0, 1, 21, 9, 1, 2, 21, 9,
             48, 1, 1, 0, 1, 0, 2, 2, 1, 1, 0, 0, 3, 3, 0, 1, 2, 1, 3, 5, 0, 0, 1, 1, 1,
             6, 2, 0, 1, 0, 2, 8, 0, 0, 1, 1, 2, 9, 0, 1, 2, 1, 2, 10, 1, 0, 2, 0, 4, 0],
        ])

    def test_a_list_of_whole_numbers(self):
        told = answers(CALLS) + answers(flat(EACH))
        self.assertIs(type(answers(CALLS)), list)
        self.assertEqual({type(number) for number in told}, {int})

    def test_one_call(self):
        self.assertEqual(answers([0, 2]), [1, 0])
        self.assertEqual(answers([5, 0, 1]), [1, -2])

    def test_an_empty_row_is_answered_as_0(self):
        self.assertEqual(answers(flat(two_zones(1) + [(OUTAGE, 0, 0, 0)]))[-3:], [2, 0, 0])

    def test_empty_rows_of_each_call_that_answers_one(self):
        told = answers(flat([(OPEN, 2), (AWARD,), (RIGHTS, 0), (STATE,)]))
        self.assertEqual(told, [1, 0, 3, 0, 1, 0, 2, 0, 0, 7, 0, 2, 1, 1, 0, 0, 0])

    def test_the_list_is_the_same_afterwards(self):
        for handed in (CALLS, flat(EACH), flat(EACH + EACH)):
            calls = list(handed)
            answers(calls)
            self.assertEqual(calls, handed)

    def test_the_list_is_only_read(self):
        class OnlyRead(list):
            def refuse(self, *told):
                raise AssertionError("the list is changed")

            __setitem__ = __delitem__ = __iadd__ = __imul__ = refuse
            append = extend = insert = pop = remove = clear = sort = reverse = refuse

        self.assertEqual(answers(OnlyRead(CALLS)), answers(CALLS))
        self.assertEqual(answers(OnlyRead(flat(EACH))), answers(flat(EACH)))

    def test_nothing_is_kept_from_one_time_to_the_next(self):
        first = answers(CALLS)
        self.assertEqual(answers(CALLS), first)
        self.assertEqual(answers([5, 0, 1]), [1, -2])
        self.assertEqual(answers(CALLS), first)
        first.append(1)
        self.assertEqual(answers(CALLS), first[:-1])

    def test_the_same_list_twice(self):
        calls = flat(EACH)
        first = answers(calls)
        answers([0, 2, 22, 0, 5])
        self.assertEqual(answers(calls), first)
        self.assertEqual(run(EACH + EACH), run(EACH) + run(EACH))

    def test_two_hundred_calls(self):
        told = answers(flat([(OPEN, 2)] + [(LINE, 0, 1, 1, 1)] * 10 + [(MOST, 0, 1)] * 189))
        self.assertEqual(told[-3:], [2, 0, 10])
        self.assertEqual(len(told), 2 + 10 * 3 + 189 * 3)

    def test_two_hundred_great_calls(self):
        """Six zones, ten lines and thirty rights, and outages that go through all of these."""
        lines = [(LINE, zone, zone + 1, 60, 60) for zone in range(5)] * 2
        grants = [option(0, 5, 2) for number in range(15)] + [obligation(5, 0, 2) for number in range(15)]
        told = answers(flat([(OPEN, 6)] + lines + grants + [(OUTAGE, 0, 0, 0)] * 159))
        self.assertEqual(told[-3:], [2, 0, 0])


    def test_two_hundred_awards(self):
        """Six zones, ten lines and 29 rights; ten bids are gone through and none can get a right."""
        lines = [(LINE, zone, zone + 1, 58, 0) for zone in range(5)] * 2
        house = [(OPEN, 6)] + lines + [option(0, 5, 4)] * 29 + [bid(0, 5, 1)] * 10
        told = answers(flat(house + [(AWARD,)] * (200 - len(house))))
        self.assertEqual(told[-8:], [3, 0, 1, 0, 3, 0, 1, 0])

    def test_as_many_numbers_as_can_be(self):
        """Long rows are read over one by one."""
        calls = [(OPEN, 2)] + [settle([1] * 100, [1] * 100)] * 80 + [(STATE,)]
        self.assertEqual(run(calls), [[0]] + [[-1]] * 80 + [[0, 2, 1, 1, 0, 0, 0]])


class ReadCalls(unittest.TestCase):
    """Each call is read with just the numbers and rows told for it, so that the next one is found."""

    LENGTHS = {0: 1, 1: 4, 2: 3, 3: 3, 4: 6, 5: 2, 6: 2, 7: 1, 8: 4, 9: 2, 10: 3, 11: 2, 12: 3, 13: 6, 14: 1, 15: 0,
               20: 0, 21: 1, 22: 2, 23: 0, 24: 1, 25: 0}

    def test_calls_without_rows(self):
        for place, length in self.LENGTHS.items():
            numbers = list(range(100, 100 + length))
            found = read_calls([place] + numbers + [5, 8, 9])
            self.assertEqual([call.place for call in found], [place, 5])
            self.assertEqual(list(found[0].numbers.values()), numbers)
            self.assertEqual(found[0].rows, {})
            self.assertEqual(found[1].numbers, {"source": 8, "sink": 9})

    def test_calls_with_rows(self):
        for place, before, rows in (
            (16, [], [[7, 8], [9]]), (16, [], [[], []]), (16, [], [[1] * 100, [2] * 100]),
            (17, [], [[1, 2, 3]]), (17, [], [[]]), (18, [77], [[4, 5]]), (18, [77], [[]]), (19, [], [[0, 1]]),
        ):
            handed = [place] + before
            for row in rows:
                handed += [len(row)] + row
            found = read_calls(handed + [5, 8, 9])
            self.assertEqual([call.place for call in found], [place, 5])
            self.assertEqual(list(found[0].numbers.values()), before)
            self.assertEqual(list(found[0].rows.values()), rows)

    def test_the_second_right_is_called_other(self):
        call = read_calls([CHAIN, 4, 5, 6])[0]
        self.assertEqual(call.numbers, {"right": 4, "other": 5, "amount": 6})


class Wide(unittest.TestCase):
    def test_the_helper_s_house_is_accepted(self):
        for zones in range(2, 6):
            told = answers(flat(wide(zones)))
            self.assertNotIn(-5, told)


if __name__ == "__main__":
    unittest.main()
