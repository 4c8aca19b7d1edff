"""open, line, rooms, outage (points 0 to 3)."""

import unittest

from tests.helper import (
    BACK, BILLION, KEEP, LINE, MOST, OPEN, OUTAGE, PASS, ROOMS, Balances, last, obligation, option, run, two_zones,
)


class Open(unittest.TestCase, Balances):
    def test_answers_nothing_more(self):
        for zones in range(2, 7):
            self.assertEqual(run([(OPEN, zones)]), [[0]])

    def test_zones_are_as_many_as_told(self):
        for zones in range(2, 7):
            top = zones - 1
            self.assertEqual(last([(OPEN, zones), (LINE, 0, top, 1, 1)]), [0, 0])
            if zones < 6:
                self.assertEqual(last([(OPEN, zones), (LINE, 0, zones, 1, 1)]), [-3])

    def test_a_new_house_has_no_lines_and_rights(self):
        self.assertEqual(run([(OPEN, 6), (MOST, 0, 5), (ROOMS, 0, 1, 1), (KEEP, 1)]), [[0], [0, 0], [-3], [-3]])

    def test_does_away_with_all_that_was_there(self):
        before = two_zones(20, 20) + [obligation(0, 1, 5, price=-3), option(0, 1, 5)]
        behind = before + [(OPEN, 2)]
        self.assertEqual(last(behind + [(ROOMS, 0, 1, 1)]), [-3])
        self.assertEqual(last(behind + [(KEEP, 1)]), [-3])
        self.assertEqual(last(behind + [(KEEP, 2)]), [-3])
        self.assertEqual(last(behind + [(MOST, 0, 1)]), [0, 0])
        self.assertEqual(run(behind + [(LINE, 1, 0, 4, 9), obligation(0, 1, 9)])[-2:], [[0, 0], [0, 1]])
        self.assert_balance(before, 0, 15)
        self.assert_balance(behind, 0, 0)

    def test_another_count_of_zones(self):
        self.assertEqual(last([(OPEN, 6), (OPEN, 2), (LINE, 0, 2, 1, 1)]), [-3])
        self.assertEqual(last([(OPEN, 2), (OPEN, 6), (LINE, 0, 2, 1, 1)]), [0, 0])

    def test_a_refused_open_leaves_the_house(self):
        told = run(two_zones(7) + [option(0, 1, 3), (OPEN, 1), (OPEN, 7), (MOST, 0, 1), option(0, 1, 4)])
        self.assertEqual(told[-4:], [[-1], [-1], [0, 4], [0, 2]])


class Line(unittest.TestCase):
    def test_numbers_from_0_on(self):
        told = run([(OPEN, 3)] + [(LINE, 0, 2, 1, 1)] * 10)
        self.assertEqual(told[1:], [[0, number] for number in range(10)])

    def test_rooms_forth_and_back(self):
        told = run([(OPEN, 2), (LINE, 1, 0, 3, 8), (MOST, 1, 0), (MOST, 0, 1)])
        self.assertEqual(told[-2:], [[0, 3], [0, 8]])

    def test_several_lines_between_the_same_zones(self):
        told = run([(OPEN, 2), (LINE, 0, 1, 1, 10), (LINE, 1, 0, 100, 1000), (LINE, 0, 1, 10000, 100000),
                    (MOST, 0, 1), (MOST, 1, 0)])
        self.assertEqual(told[-2:], [[0, 11001], [0, 100110]])

    def test_rooms_of_0_and_10_to_the_9(self):
        told = run([(OPEN, 2), (LINE, 0, 1, 0, BILLION), (MOST, 0, 1), (MOST, 1, 0)])
        self.assertEqual(told[1:], [[0, 0], [0, 0], [0, BILLION]])

    def test_zones_that_are_not_there_or_one(self):
        for a, b in ((0, 3), (3, 0), (5, 1), (0, 0), (2, 2), (4, 4)):
            self.assertEqual(last([(OPEN, 3), (LINE, a, b, 1, 1)]), [-3])

    def test_full_behind_ten(self):
        ten = [(OPEN, 2)] + [(LINE, 0, 1, 1, 0)] * 10
        self.assertEqual(run(ten + [(LINE, 0, 1, 1, 0), (MOST, 0, 1)])[-2:], [[-5], [0, 10]])
        self.assertEqual(last(ten + [(LINE, 0, 2, 1, 0)]), [-3])


class Rooms(unittest.TestCase):
    def test_the_line_has_these_rooms(self):
        told = run([(OPEN, 2), (LINE, 0, 1, 1, 2), (LINE, 0, 1, 10, 20), (ROOMS, 1, 300, 400),
                    (MOST, 0, 1), (MOST, 1, 0), (ROOMS, 0, 0, BILLION), (MOST, 0, 1), (MOST, 1, 0)])
        self.assertEqual(told[3:], [[0], [0, 301], [0, 402], [0], [0, 300], [0, BILLION]])

    def test_no_such_line(self):
        self.assertEqual(last([(OPEN, 2), (ROOMS, 0, 1, 1)]), [-3])
        self.assertEqual(last(two_zones(1) + [(ROOMS, 1, 1, 1)]), [-3])
        self.assertEqual(last([(OPEN, 2)] + [(LINE, 0, 1, 1, 1)] * 9 + [(ROOMS, 9, 1, 1)]), [-3])

    def test_the_last_line(self):
        self.assertEqual(last([(OPEN, 2)] + [(LINE, 0, 1, 1, 1)] * 10 + [(ROOMS, 9, 1, 1)]), [0])

    def test_down_to_what_is_promised_and_no_further(self):
        for right in (obligation(0, 1, 6), option(0, 1, 6)):
            told = run(two_zones(10, 3) + [right, (ROOMS, 0, 5, 3), (MOST, 0, 1), (ROOMS, 0, 6, 3), (MOST, 0, 1)])
            self.assertEqual(told[-4:], [[-7], [0, 4], [0], [0, 0]])

    def test_it_cuts_no_option(self):
        told = run(two_zones(10) + [option(0, 1, 6), (ROOMS, 0, 0, BILLION), (BACK, 1, 6)])
        self.assertEqual(told[-2:], [[-7], [0, 0]])

    def test_of_several_zones(self):
        """From 0 to 2 there is a way by 1 and one straight on."""
        house = [(OPEN, 3), (LINE, 0, 1, 4, 0), (LINE, 1, 2, 4, 0), (LINE, 0, 2, 3, 0), option(0, 2, 6)]
        told = run(house + [(ROOMS, 0, 2, 0), (ROOMS, 0, 3, 0), (ROOMS, 1, 2, 0), (ROOMS, 1, 3, 0), (ROOMS, 2, 2, 9)])
        self.assertEqual(told[-5:], [[-7], [0], [-7], [0], [-7]])


class Outage(unittest.TestCase):
    def test_nothing_to_cut(self):
        told = run(two_zones(10, 5) + [option(0, 1, 4), (OUTAGE, 0, 4, 7), (MOST, 0, 1), (MOST, 1, 0)])
        self.assertEqual(told[-3:], [[0, 0], [0, 0], [0, 7]])

    def test_more_room(self):
        told = run(two_zones(1) + [(OUTAGE, 0, BILLION, 5), (MOST, 0, 1), (MOST, 1, 0)])
        self.assertEqual(told[-3:], [[0, 0], [0, BILLION], [0, 5]])

    def test_cuts_one_option_to_what_is_left(self):
        told = run(two_zones(10) + [option(0, 1, 4), option(0, 1, 5), (OUTAGE, 0, 6, 0), (BACK, 2, 3), (BACK, 2, 2)])
        self.assertEqual(told[-3:], [[0, 2, 2, 2], [-4], [0, 0]])

    def test_cuts_several_from_the_greatest_number(self):
        told = run(two_zones(20) + [option(0, 1, 4), option(0, 1, 5), option(0, 1, 6), (OUTAGE, 0, 3, 0),
                                    (MOST, 0, 1), (KEEP, 1), (KEEP, 2), (KEEP, 3), (BACK, 1, 3)])
        self.assertEqual(told[-6:], [[0, 6, 1, 3, 2, 0, 3, 0], [0, 0], [0, 0], [-3], [-3], [0, 0]])

    def test_most_of_just_0_does_away_with_the_option(self):
        told = run(two_zones(20) + [option(0, 1, 4), option(0, 1, 5), (OUTAGE, 0, 4, 0)])
        self.assertEqual(told[-1], [0, 2, 2, 0])

    def test_stops_where_all_is_safe(self):
        told = run(two_zones(20) + [option(0, 1, 4), option(0, 1, 5), option(0, 1, 6), (OUTAGE, 0, 9, 0), (MOST, 0, 1)])
        self.assertEqual(told[-2:], [[0, 2, 3, 0], [0, 0]])

    def test_the_most_below_0_does_away_with_the_option(self):
        """Without the newest option the obligation and the older one still want 4 more than there is."""
        told = run(two_zones(20) + [option(0, 1, 5), obligation(0, 1, 6), option(0, 1, 9), (OUTAGE, 0, 7, 0)])
        self.assertEqual(told[-1], [0, 4, 1, 1, 3, 0])

    def test_obligations_are_left(self):
        house = two_zones(20) + [option(0, 1, 5), obligation(0, 1, 6)]
        self.assertEqual(last(house + [(OUTAGE, 0, 6, 0)]), [0, 2, 1, 0])
        self.assertEqual(last(house + [(OUTAGE, 0, 6, 0), (BACK, 2, 6)]), [0, 0])

    def test_refused_where_obligations_are_too_many(self):
        house = two_zones(20, 3) + [option(0, 1, 5), obligation(0, 1, 6)]
        told = run(house + [(OUTAGE, 0, 5, 9), (MOST, 0, 1), (MOST, 1, 0), (BACK, 1, 5)])
        self.assertEqual(told[-4:], [[-7], [0, 9], [0, 9], [0, 0]])

    def test_options_that_do_not_help_are_left(self):
        """The most of the newest option, from 1 to 0, is not touched by the room from 0 to 1."""
        house = two_zones(9, 9) + [option(0, 1, 5), option(1, 0, 9)]
        self.assertEqual(last(house + [(OUTAGE, 0, 2, 9)]), [0, 2, 1, 2])

    def test_options_that_are_cut_free_one_another_way(self):
        """At each option the others are as they are then, so the older one stays whole."""
        house = [(OPEN, 3), (LINE, 0, 1, 8, 0), (LINE, 1, 2, 8, 0), option(0, 2, 4), option(1, 2, 4), option(0, 1, 4)]
        self.assertEqual(last(house + [(OUTAGE, 1, 5, 0)]), [0, 2, 2, 1])
        self.assertEqual(last(house + [(OUTAGE, 1, 3, 0)]), [0, 4, 1, 3, 2, 0])
        self.assertEqual(last(house + [(OUTAGE, 0, 3, 0)]), [0, 4, 1, 3, 3, 0])

    def test_an_obligation_the_other_way_carries_an_option(self):
        house = two_zones(4, 9) + [obligation(1, 0, 5), option(0, 1, 9)]
        self.assertEqual(last(house + [(OUTAGE, 0, 1, 9)]), [0, 2, 2, 6])
        self.assertEqual(last(house + [(OUTAGE, 0, 0, 4)]), [-7])

    def test_a_cut_that_does_not_help_is_made_too(self):
        """The newest option has a line of its own, but a group holds the sinks of both."""
        house = [(OPEN, 4), (LINE, 0, 1, 9, 0), (LINE, 2, 3, 9, 0), option(0, 1, 5), option(2, 3, 9)]
        self.assertEqual(last(house + [(OUTAGE, 0, 2, 0)]), [0, 4, 1, 2, 2, 6])
        house = [(OPEN, 3), (LINE, 0, 2, 6, 0), (LINE, 1, 2, 6, 0), option(0, 2, 6), option(1, 2, 6)]
        self.assertEqual(last(house + [(OUTAGE, 0, 1, 0)]), [0, 4, 1, 1, 2, 1])
        self.assertEqual(last(house + [(OUTAGE, 1, 1, 0)]), [0, 2, 2, 1])

    def test_nobody_is_paid_and_owners_do_not_matter(self):
        told = run(two_zones(9) + [option(0, 1, 4, owner=3), option(0, 1, 5, owner=2), (OUTAGE, 0, 0, 0)])
        self.assertEqual(told[-1], [0, 4, 1, 0, 2, 0])

    def test_numbers_are_not_given_again(self):
        told = run(two_zones(9) + [option(0, 1, 4), option(0, 1, 5), (OUTAGE, 0, 0, 0), (ROOMS, 0, 9, 0),
                                   option(0, 1, 1)])
        self.assertEqual(told[-1], [0, 3])

    def test_parts_of_a_right_that_was_passed_on_are_cut_by_their_numbers(self):
        told = run(two_zones(9) + [option(0, 1, 9), (PASS, 1, 1, 4, 0), (OUTAGE, 0, 6, 0)])
        self.assertEqual(told[-2:], [[0, 2], [0, 2, 2, 1]])

    def test_thirty_options_of_six_zones(self):
        house = [(OPEN, 6)] + [(LINE, zone, zone + 1, BILLION, 0) for zone in range(5)]
        told = run(house + [option(0, 5, 2)] * 30 + [(OUTAGE, 4, 31, 0)])
        row = [16, 1] + [number for right in range(17, 31) for number in (right, 0)]
        self.assertEqual(told[-1], [0, 30] + row)

    def test_no_such_line(self):
        self.assertEqual(last([(OPEN, 2), (OUTAGE, 0, 1, 1)]), [-3])
        self.assertEqual(last(two_zones(1) + [(OUTAGE, 1, 1, 1)]), [-3])


if __name__ == "__main__":
    unittest.main()
