"""group, tight, rights, state (points 19, 20, 24, 25)."""

import itertools
import unittest

from tests.helper import (
    AWARD, BACK, BILLION, CHAIN, JOIN, LINE, OBLIGATION, OPEN, OPTION, OUTAGE, PASS, PAYIN, RIGHTS, ROOMS, STATE, TIGHT,
    UNBID, VIA, bid, group, last, obligation, option, run, told_of, two_zones, wide,
)

# Four zones; each room and each amount is another power of 10, so that a sum tells what it's made of.
POWERS = [
    (OPEN, 4), (LINE, 0, 1, 1000, 2000), (LINE, 2, 1, 10000, 20000), (LINE, 3, 0, 100000, 200000),
    obligation(0, 1, 1), option(2, 1, 10), option(3, 0, 100), obligation(0, 3, 1000),
]


class Group(unittest.TestCase):
    def test_two_zones(self):
        house = two_zones(10, 4) + [obligation(0, 1, 3), option(0, 1, 2), option(1, 0, 1)]
        self.assertEqual(last(house + [group([0, 1])]), [0, 5, 10])
        self.assertEqual(last(house + [group([1, 0])]), [0, -3 + 1, 4])

    def test_no_zone_and_all_zones(self):
        for zones in range(2, 6):
            house = wide(zones) + [obligation(0, 1, 3), option(1, 0, 2)]
            self.assertEqual(last(house + [group([0] * zones)]), [0, 0, 0])
            self.assertEqual(last(house + [group([1] * zones)]), [0, 0, 0])
        self.assertEqual(last([(OPEN, 6), group([1] * 6)]), [0, 0, 0])

    def test_each_zone_by_itself(self):
        self.assertEqual(last(POWERS + [group([1, 0, 0, 0])]), [0, -1 + 100 - 1000, 102000])
        self.assertEqual(last(POWERS + [group([0, 1, 0, 0])]), [0, 1 + 10, 11000])
        self.assertEqual(last(POWERS + [group([0, 0, 1, 0])]), [0, 0, 20000])
        self.assertEqual(last(POWERS + [group([0, 0, 0, 1])]), [0, 1000, 200000])

    def test_several_zones(self):
        self.assertEqual(last(POWERS + [group([1, 1, 0, 0])]), [0, 10 + 100 - 1000, 110000])
        self.assertEqual(last(POWERS + [group([0, 0, 1, 1])]), [0, 1000, 220000])
        self.assertEqual(last(POWERS + [group([1, 0, 0, 1])]), [0, -1, 2000])
        self.assertEqual(last(POWERS + [group([0, 1, 0, 1])]), [0, 1 + 10 + 1000, 211000])
        self.assertEqual(last(POWERS + [group([1, 1, 0, 1])]), [0, 10, 10000])

    def test_six_zones(self):
        house = [(OPEN, 6)] + [(LINE, zone, zone + 1, 10 ** zone, 2 * 10 ** zone) for zone in range(5)]
        for marks in itertools.product((0, 1), repeat=6):
            steps = [(1 if marks[zone + 1] else 2) * 10 ** zone for zone in range(5) if marks[zone] != marks[zone + 1]]
            self.assertEqual(last(house + [group(marks)]), [0, 0, sum(steps)])

    def test_without_lines_and_rights(self):
        self.assertEqual(last([(OPEN, 2), group([0, 1])]), [0, 0, 0])

    def test_rows_that_have_not_one_number_for_each_zone(self):
        for row in ([], [1], [1, 0], [1, 0, 1], [1, 0, 1, 0, 0], [0] * 64, [1] * 64):
            self.assertEqual(last(POWERS + [group(row)]), [-4])

    def test_a_number_other_than_0_and_1(self):
        for number in (-1, 2, BILLION):
            self.assertEqual(last(POWERS + [group([0, number, 1, 0])]), [-1])
            self.assertEqual(last(POWERS + [group([0, 1, 0, 1, number])]), [-1])
            self.assertEqual(last(POWERS + [group([number])]), [-1])

    def test_it_changes_nothing(self):
        self.assertEqual(told_of(POWERS + [group([0, 1, 0, 0])]), told_of(POWERS))


class Tight(unittest.TestCase):
    def test_two_zones(self):
        self.assertEqual(last(two_zones(10, 4) + [(TIGHT,)]), [0, 4, 2, 1, 0])
        self.assertEqual(last(two_zones(4, 10) + [(TIGHT,)]), [0, 4, 2, 0, 1])

    def test_two_groups_of_the_same_slack(self):
        self.assertEqual(last(two_zones(7, 7) + [(TIGHT,)]), [0, 7, 2, 1, 0])

    def test_beside_rights(self):
        house = two_zones(10, 4) + [option(0, 1, 7)]
        self.assertEqual(last(house + [(TIGHT,)]), [0, 3, 2, 0, 1])
        self.assertEqual(last(house + [obligation(0, 1, 3), (TIGHT,)]), [0, 0, 2, 0, 1])
        self.assertEqual(last(two_zones(10, 4) + [obligation(0, 1, 3), (TIGHT,)]), [0, 7, 2, 1, 0])
        self.assertEqual(last(two_zones(10, 4) + [obligation(0, 1, 4), (TIGHT,)]), [0, 6, 2, 0, 1])

    def test_no_zone_and_all_zones_are_not_looked_at(self):
        """Their slack is 0 always, less than that of the others here."""
        for zones in range(2, 6):
            slack = BILLION * (zones - 1)
            self.assertEqual(last(wide(zones) + [(TIGHT,)]), [0, slack, zones, 1] + [0] * (zones - 1))

    def test_without_lines(self):
        for zones in range(2, 7):
            self.assertEqual(last([(OPEN, zones), (TIGHT,)]), [0, 0, zones, 1] + [0] * (zones - 1))

    def test_the_slack_is_not_cut_to_10_to_the_9(self):
        house = [(OPEN, 2)] + [(LINE, 0, 1, BILLION, BILLION)] * 10
        self.assertEqual(last(house + [(TIGHT,)]), [0, 10 * BILLION, 2, 1, 0])

    def test_of_several_the_least_number(self):
        """Three zones: 1 and 2 are as tight as one another, and so are both together."""
        house = [(OPEN, 3), (LINE, 0, 1, 5, 9), (LINE, 0, 2, 5, 9)]
        self.assertEqual(last(house + [(TIGHT,)]), [0, 5, 3, 0, 1, 0])
        house = [(OPEN, 3), (LINE, 0, 2, 5, 9), (LINE, 1, 2, 5, 9), (LINE, 0, 1, 9, 9)]
        self.assertEqual(last(house + [(TIGHT,)]), [0, 10, 3, 0, 0, 1])
        house = [(OPEN, 3), (LINE, 0, 1, 5, 9), (LINE, 1, 2, 5, 9)]
        self.assertEqual(last(house + [(TIGHT,)]), [0, 5, 3, 0, 0, 1])

    def test_a_group_of_several_zones_ahead_of_a_greater_zone(self):
        """The zones 0 and 1 together are number 3, zone 2 by itself is number 4."""
        house = [(OPEN, 3), (LINE, 0, 1, 50, 50), (LINE, 1, 2, 5, 5)]
        self.assertEqual(last(house + [(TIGHT,)]), [0, 5, 3, 1, 1, 0])

    def test_six_zones(self):
        """In a chain the tightest is what lies on one side of the narrowest room."""
        for narrow in range(5):
            forth = [9] * 5
            forth[narrow] = 2
            house = [(OPEN, 6)] + [(LINE, zone, zone + 1, forth[zone], 20) for zone in range(5)]
            marks = [0] * (narrow + 1) + [1] * (5 - narrow)
            self.assertEqual(last(house + [(TIGHT,)]), [0, 2, 6] + marks)
            house = [(OPEN, 6)] + [(LINE, zone, zone + 1, 20, forth[zone]) for zone in range(5)]
            marks = [1] * (narrow + 1) + [0] * (5 - narrow)
            self.assertEqual(last(house + [(TIGHT,)]), [0, 2, 6] + marks)

    def test_six_zones_of_the_same_slack(self):
        house = [(OPEN, 6)] + [(LINE, zone, zone + 1, 7, 7) for zone in range(5)]
        self.assertEqual(last(house + [(TIGHT,)]), [0, 7, 6, 1, 0, 0, 0, 0, 0])
        self.assertEqual(last(house + [(ROOMS, 0, 8, 8), (TIGHT,)]), [0, 7, 6, 1, 1, 0, 0, 0, 0])
        self.assertEqual(last(house + [(ROOMS, 0, 8, 8), (ROOMS, 1, 8, 8), (TIGHT,)]), [0, 7, 6, 1, 1, 1, 0, 0, 0])
        self.assertEqual(last(house + [(ROOMS, 4, 6, 6), (TIGHT,)]), [0, 6, 6, 1, 1, 1, 1, 1, 0])
        ring = house + [(LINE, 5, 0, 7, 7), (TIGHT,)]
        self.assertEqual(last(ring), [0, 14, 6, 1, 0, 0, 0, 0, 0])

    def test_the_group_with_the_greatest_number(self):
        """It holds all zones but 0."""
        for zones in range(2, 7):
            lines = [(LINE, 0, 1, 1, 9)] + [(LINE, zone, zone + 1, 9, 9) for zone in range(1, zones - 1)]
            self.assertEqual(last([(OPEN, zones)] + lines + [(TIGHT,)]), [0, 1, zones, 0] + [1] * (zones - 1))

    def test_it_changes_nothing(self):
        self.assertEqual(told_of(POWERS + [(TIGHT,)]), told_of(POWERS))


class Rights(unittest.TestCase):
    def test_the_rights_of_each_owner(self):
        house = wide(3) + [option(0, 1, 5, owner=2), obligation(2, 1, 6, owner=3), obligation(1, 0, 7, owner=2)]
        self.assertEqual(last(house + [(RIGHTS, 2)]), [0, 10, 1, 0, 1, OPTION, 5, 3, 1, 0, OBLIGATION, 7])
        self.assertEqual(last(house + [(RIGHTS, 3)]), [0, 5, 2, 2, 1, OBLIGATION, 6])

    def test_an_empty_row(self):
        for owner in range(8):
            self.assertEqual(last(two_zones(9) + [(RIGHTS, owner)]), [0, 0])
        self.assertEqual(last(two_zones(9) + [option(0, 1, 5, owner=6), (RIGHTS, 7)]), [0, 0])
        self.assertEqual(last(two_zones(9) + [option(0, 1, 5, owner=6), (BACK, 1, 5), (RIGHTS, 6)]), [0, 0])

    def test_bids_are_no_rights(self):
        self.assertEqual(last(two_zones(9) + [bid(0, 1, 5, owner=6), (RIGHTS, 6)]), [0, 0])

    def test_from_the_least_number_on(self):
        """Whatever befalls a right, it keeps its place among the numbers."""
        house = wide(3) + [option(0, 1, 5), option(0, 1, 6), option(0, 1, 7), option(1, 2, 8, owner=1),
                           (PASS, 4, 0, 8, 0), (PASS, 1, 1, 2, 0), (PASS, 5, 0, 2, 0), (JOIN, 3, 2), (BACK, 3, 1),
                           (CHAIN, 3, 4, 3)]
        self.assertEqual(last(house + [(RIGHTS, 0)]), [
            0, 25, 1, 0, 1, OPTION, 3, 3, 0, 1, OPTION, 9, 4, 1, 2, OPTION, 5, 5, 0, 1, OPTION, 2, 6, 0, 2, OPTION, 3,
        ])
        self.assertEqual(last(house + [(RIGHTS, 1)]), [0, 0])

    def test_thirty_rights(self):
        told = last(wide(3) + [option(0, 1, k + 1) for k in range(30)] + [(RIGHTS, 0)])
        self.assertEqual(told, [0, 150] + [part for k in range(30) for part in (k + 1, 0, 1, OPTION, k + 1)])

    def test_it_changes_nothing(self):
        self.assertEqual(told_of(POWERS + [(RIGHTS, 0)]), told_of(POWERS))


class State(unittest.TestCase):
    def test_a_new_house(self):
        for zones in range(2, 7):
            self.assertEqual(last([(OPEN, zones), (STATE,)]), [0, zones, 1, 1, 0, 0, 0])

    def test_lines_rights_and_bids(self):
        house = [(OPEN, 3), (LINE, 0, 1, 10, 4), (LINE, 2, 1, 30, 0), (PAYIN, 5, 99), option(0, 1, 5, owner=4),
                 obligation(2, 1, 6, owner=3, price=-2), bid(1, 2, 7, price=8, owner=5), bid(0, 2, 9, price=-1, owner=6,
                                                                                           kind=OPTION)]
        self.assertEqual(last(house + [(STATE,)]), [
            0, 3, 3, 3,
            8, 0, 1, 10, 4, 2, 1, 30, 0,
            12, 1, 4, 0, 1, OPTION, 5, 2, 3, 2, 1, OBLIGATION, 6,
            14, 1, 5, 1, 2, OBLIGATION, 7, 8, 2, 6, 0, 2, OPTION, 9, -1,
        ])

    def test_next_numbers(self):
        house = two_zones(9, 9) + [option(0, 1, 1), option(0, 1, 1), (BACK, 2, 1), bid(0, 1, 1), bid(0, 1, 1),
                                   bid(0, 1, 1), (UNBID, 3), (UNBID, 2)]
        self.assertEqual(last(house + [(STATE,)])[:4], [0, 2, 3, 4])
        self.assertEqual(last(house + [(AWARD,), (STATE,)]), [
            0, 2, 4, 4, 4, 0, 1, 9, 9, 12, 1, 0, 0, 1, OPTION, 1, 3, 0, 0, 1, OBLIGATION, 1, 0,
        ])

    def test_via_takes_two_numbers(self):
        told = last([(OPEN, 3), (LINE, 0, 1, 5, 0), (LINE, 1, 2, 5, 0), option(0, 2, 3, owner=7), (VIA, 1, 1), (STATE,)])
        self.assertEqual(told, [
            0, 3, 4, 1, 8, 0, 1, 5, 0, 1, 2, 5, 0, 12, 2, 7, 0, 1, OPTION, 3, 3, 7, 1, 2, OPTION, 3, 0,
        ])

    def test_rooms_and_outages(self):
        house = two_zones(10, 4) + [option(0, 1, 5), option(0, 1, 5), (ROOMS, 0, 12, 3)]
        self.assertEqual(last(house + [(STATE,)])[4:9], [4, 0, 1, 12, 3])
        self.assertEqual(last(house + [(OUTAGE, 0, 2, 1), (STATE,)]), [
            0, 2, 3, 1, 4, 0, 1, 2, 1, 6, 1, 0, 0, 1, OPTION, 2, 0,
        ])

    def test_the_bids_from_the_least_number_on(self):
        house = two_zones(2) + [(PAYIN, 0, 99), bid(0, 1, 9, price=1), bid(0, 1, 9, price=3), bid(0, 1, 9, price=2),
                                (AWARD,), (STATE,)]
        self.assertEqual(last(house)[-22:], [
            21, 1, 0, 0, 1, 0, 9, 1, 2, 0, 0, 1, 0, 7, 3, 3, 0, 0, 1, 0, 9, 2,
        ])

    def test_as_much_as_there_can_be(self):
        house = [(OPEN, 6)] + [(LINE, 0, 5, BILLION, 0)] * 10 + [option(0, 5, BILLION // 3, owner=7)] * 30
        house += [bid(5, 0, BILLION, price=-10 ** 6)] * 10
        lines = [0, 5, BILLION, 0] * 10
        rights = [part for k in range(1, 31) for part in (k, 7, 0, 5, OPTION, BILLION // 3)]
        bids = [part for k in range(1, 11) for part in (k, 0, 5, 0, OBLIGATION, BILLION, -10 ** 6)]
        self.assertEqual(last(house + [(STATE,)]), [0, 6, 31, 11, 40] + lines + [180] + rights + [70] + bids)

    def test_it_changes_nothing(self):
        self.assertEqual(run(POWERS + [(STATE,), (STATE,)])[-1], run(POWERS + [(STATE,)])[-1])
        self.assertEqual(told_of(POWERS + [(STATE,)]), told_of(POWERS))


if __name__ == "__main__":
    unittest.main()
