"""grant, most, back, keep (points 4 to 7)."""

import unittest

from tests.helper import (
    BACK, BILLION, GRANT, HOUSE, KEEP, LINE, MONEY, MOST, OBLIGATION, OPEN, OPTION, PASS, ROOMS,
    Balances, last, obligation, option, run, settle, thirty_rights, two_zones, wide,
)


class Grant(unittest.TestCase, Balances):
    def test_numbers_from_1_on(self):
        told = run(two_zones(9) + [obligation(0, 1, 2), option(0, 1, 3), obligation(0, 1, 4)])
        self.assertEqual(told[-3:], [[0, 1], [0, 2], [0, 3]])

    def test_amounts_of_1_and_10_to_the_9(self):
        for kind in (OBLIGATION, OPTION):
            told = run(two_zones(BILLION) + [(GRANT, 0, 0, 1, kind, BILLION, 0), (BACK, 1, BILLION),
                                             (GRANT, 0, 0, 1, kind, 1, 0), (BACK, 2, 1)])
            self.assertEqual(told[2:], [[0, 1], [0, 0], [0, 2], [0, 0]])

    def test_a_number_is_never_given_again(self):
        told = run(two_zones(9) + [option(0, 1, 2), (BACK, 1, 2), option(0, 1, 2), (KEEP, 1), (BACK, 1, 1)])
        self.assertEqual(told[-4:], [[0, 0], [0, 2], [-3], [-3]])

    def test_a_refused_grant_takes_no_number(self):
        told = run(two_zones(9) + [option(0, 1, 10), option(0, 0, 1), option(0, 1, 1, price=1), option(0, 1, 9)])
        self.assertEqual(told[-4:], [[-7], [-3], [-6], [0, 1]])

    def test_a_price_below_0_pays_the_owner(self):
        house = two_zones(9) + [option(0, 1, 3, owner=5, price=-4)]
        self.assert_balance(house, 5, 12)
        for owner in (0, 1, 2, 3, 4, 6, 7):
            self.assert_balance(house, owner, 0)

    def test_a_price_above_0_is_paid_by_the_owner(self):
        house = two_zones(9) + [option(0, 1, 3, owner=5, price=-4), obligation(0, 1, 2, owner=5, price=5)]
        self.assertEqual(last(house), [0, 2])
        self.assert_balance(house, 5, 2)

    def test_the_price_for_all_of_what_is_free(self):
        rich = two_zones(9) + [option(0, 1, 3, price=-4)]
        self.assertEqual(last(rich + [option(0, 1, 4, price=3)]), [0, 2])
        self.assertEqual(last(rich + [option(0, 1, 1, price=13)]), [-6])
        self.assert_balance(rich + [option(0, 1, 4, price=3)], 0, 0)

    def test_least_and_greatest_price(self):
        house = [(OPEN, 2), (LINE, 0, 1, BILLION, BILLION), option(0, 1, BILLION, price=-10 ** 6)]
        told = run(house + [obligation(1, 0, BILLION, price=10 ** 6), option(1, 0, 1, price=1)])
        self.assertEqual(told[-2:], [[0, 2], [-6]])

    def test_a_price_of_0_needs_nothing(self):
        self.assertEqual(last(two_zones(9) + [option(0, 1, 9, price=0)]), [0, 1])

    def test_the_owner_alone_counts(self):
        rich = two_zones(9) + [option(0, 1, 3, owner=1, price=-4)]
        self.assertEqual(last(rich + [option(0, 1, 1, owner=2, price=1)]), [-6])
        self.assertEqual(last(rich + [option(0, 1, 1, owner=1, price=1)]), [0, 2])

    def test_sales(self):
        house = two_zones(9) + [option(0, 1, 3, price=-4), (HOUSE,), option(0, 1, 2, price=5), (HOUSE,),
                                option(0, 1, 9, price=0), option(0, 1, 1, price=0), (HOUSE,), (MONEY, 0)]
        self.assertEqual(run(house)[2:], [[0, 1], [0, 0, -12, 0], [0, 2], [0, 0, -2, 0], [-7], [0, 3], [0, 0, -2, 0],
                                          [0, 2, 2]])

    def test_free_below_0_refuses_each_grant(self):
        house = two_zones(9, 9) + [obligation(0, 1, 1), settle([1, 0], [-9])]
        self.assertEqual(last(house + [(MONEY, 0)]), [0, -1, -1])
        for price in (-5, 0, 5):
            self.assertEqual(last(house + [option(0, 1, 1, price=price)]), [-6])

    def test_zones_that_are_not_there_or_one(self):
        for source, sink in ((0, 2), (2, 0), (5, 1), (0, 0), (1, 1), (5, 5)):
            self.assertEqual(last(two_zones(9) + [option(source, sink, 1)]), [-3])

    def test_full_behind_thirty(self):
        house = two_zones(BILLION) + thirty_rights()
        self.assertEqual(last(house), [0, 30])
        self.assertEqual(last(house + [option(0, 1, 1)]), [-5])
        self.assertEqual(run(house + [(BACK, 30, 2), option(0, 1, 1)])[-2:], [[0, 0], [0, 31]])

    def test_order_of_refusals(self):
        full = two_zones(60) + thirty_rights()
        self.assertEqual(last(full + [option(1, 1, BILLION, price=5)]), [-3])
        self.assertEqual(last(full + [option(0, 1, BILLION, price=5)]), [-5])
        self.assertEqual(last(two_zones(9) + [option(0, 2, 10, price=1)]), [-3])
        self.assertEqual(last(two_zones(9) + [option(0, 1, 10, price=1)]), [-6])
        self.assertEqual(last(two_zones(9) + [option(0, 1, 10, price=0)]), [-7])

    def test_not_safe_just_above_the_most(self):
        for kind in (OBLIGATION, OPTION):
            for forth, back, source, sink, amount in ((9, 4, 0, 1, 9), (9, 4, 1, 0, 4)):
                house = two_zones(forth, back)
                self.assertEqual(last(house + [(GRANT, 0, source, sink, kind, amount + 1, 0)]), [-7])
                self.assertEqual(last(house + [(GRANT, 0, source, sink, kind, amount, 0)]), [0, 1])

    def test_a_price_below_0_does_not_make_it_safe(self):
        self.assertEqual(last(two_zones(9) + [option(0, 1, 10, price=-1)]), [-7])

    def test_an_obligation_makes_room_the_other_way_and_an_option_does_not(self):
        self.assertEqual(last(two_zones(5, 3) + [obligation(0, 1, 5), obligation(1, 0, 8)]), [0, 2])
        self.assertEqual(last(two_zones(5, 3) + [obligation(0, 1, 5), option(1, 0, 8)]), [0, 2])
        self.assertEqual(last(two_zones(5, 3) + [option(0, 1, 5), obligation(1, 0, 4)]), [-7])
        self.assertEqual(last(two_zones(5, 3) + [option(0, 1, 5), obligation(1, 0, 3)]), [0, 2])

    def test_options_that_only_meet_in_one_group(self):
        """Into 3 alone there is room for both; into 2 and 3 together there is not."""
        house = [(OPEN, 4), (LINE, 0, 2, 5, 0), (LINE, 1, 2, 5, 0), (LINE, 2, 3, 20, 0)]
        self.assertEqual(last(house + [option(0, 3, 5), option(1, 2, 5)]), [0, 2])
        self.assertEqual(last(house + [option(0, 3, 6)]), [-7])
        house = [(OPEN, 4), (LINE, 0, 2, 5, 0), (LINE, 0, 1, 9, 9), (LINE, 1, 2, 5, 0), (LINE, 2, 3, 20, 0)]
        self.assertEqual(last(house + [option(0, 3, 6), option(1, 2, 4)]), [0, 2])
        self.assertEqual(last(house + [option(0, 3, 6), option(1, 2, 5)]), [-7])


class Most(unittest.TestCase):
    def test_without_lines(self):
        self.assertEqual(last([(OPEN, 2), (MOST, 0, 1)]), [0, 0])

    def test_the_least_of_the_groups_on_the_way(self):
        house = [(OPEN, 6)] + [(LINE, zone, zone + 1, 20 - 3 * zone, 0) for zone in range(5)]
        for source in range(6):
            for sink in range(6):
                if source < sink:
                    self.assertEqual(last(house + [(MOST, source, sink)]), [0, 20 - 3 * (sink - 1)])
                elif source > sink:
                    self.assertEqual(last(house + [(MOST, source, sink)]), [0, 0])

    def test_several_ways_are_added(self):
        house = [(OPEN, 4), (LINE, 0, 1, 3, 0), (LINE, 1, 3, 7, 0), (LINE, 0, 2, 9, 0), (LINE, 2, 3, 4, 0)]
        self.assertEqual(last(house + [(MOST, 0, 3)]), [0, 7])

    def test_six_zones_from_each_to_each(self):
        """All zones hang on zone 0 by a line of their own, each with other rooms."""
        forth = [0, 11, 13, 17, 19, 23]
        back = [0, 29, 7, 5, 3, 2]
        house = [(OPEN, 6)] + [(LINE, 0, zone, forth[zone], back[zone]) for zone in range(1, 6)]
        for zone in range(1, 6):
            self.assertEqual(last(house + [(MOST, 0, zone)]), [0, forth[zone]])
            self.assertEqual(last(house + [(MOST, zone, 0)]), [0, back[zone]])
            for other in range(1, 6):
                if other != zone:
                    self.assertEqual(last(house + [(MOST, zone, other)]), [0, min(back[zone], forth[other])])

    def test_at_most_10_to_the_9(self):
        lines = [(OPEN, 2), (LINE, 0, 1, BILLION, 0), (LINE, 0, 1, BILLION, 0)]
        self.assertEqual(last(lines + [(MOST, 0, 1)]), [0, BILLION])
        self.assertEqual(last(lines + [option(0, 1, BILLION), (MOST, 0, 1)]), [0, BILLION])
        self.assertEqual(last(lines + [option(0, 1, BILLION), option(0, 1, 1), (MOST, 0, 1)]), [0, BILLION - 1])

    def test_beside_rights(self):
        house = two_zones(10, 10) + [obligation(0, 1, 4), option(0, 1, 3), option(1, 0, 2)]
        self.assertEqual(run(house + [(MOST, 0, 1), (MOST, 1, 0)])[-2:], [[0, 3], [0, 12]])

    def test_it_changes_nothing(self):
        told = run(two_zones(10) + [(MOST, 0, 1), (MOST, 0, 1), option(0, 1, 10)])
        self.assertEqual(told[-3:], [[0, 10], [0, 10], [0, 1]])

    def test_zones_that_are_not_there_or_one(self):
        for source, sink in ((0, 2), (2, 0), (5, 1), (0, 0), (1, 1), (5, 5)):
            self.assertEqual(last(two_zones(9) + [(MOST, source, sink)]), [-3])


class Back(unittest.TestCase, Balances):
    def test_some_of_it(self):
        told = run(two_zones(10) + [option(0, 1, 7), (BACK, 1, 3), (MOST, 0, 1), (BACK, 1, 3), (MOST, 0, 1)])
        self.assertEqual(told[-4:], [[0, 4], [0, 6], [0, 1], [0, 9]])

    def test_all_of_it(self):
        told = run(two_zones(10) + [obligation(0, 1, 7), (BACK, 1, 7), (MOST, 0, 1), (MOST, 1, 0), (KEEP, 1)])
        self.assertEqual(told[-4:], [[0, 0], [0, 10], [0, 0], [-3]])

    def test_nothing_is_paid(self):
        house = two_zones(10) + [option(0, 1, 7, price=-2), (BACK, 1, 3)]
        self.assert_balance(house, 0, 14)
        self.assert_balance(house + [(BACK, 1, 4)], 0, 14)

    def test_no_such_right(self):
        self.assertEqual(last([(OPEN, 2), (BACK, 1, 1)]), [-3])
        self.assertEqual(last(two_zones(9) + [option(0, 1, 2), (BACK, 2, 1)]), [-3])
        self.assertEqual(last(two_zones(9) + [option(0, 1, 2), (BACK, BILLION, BILLION)]), [-3])

    def test_more_than_there_is(self):
        told = run(two_zones(9) + [option(0, 1, 2), (BACK, 1, 3), (BACK, 1, BILLION), (BACK, 1, 2)])
        self.assertEqual(told[-3:], [[-4], [-4], [0, 0]])

    def test_others_lean_on_it(self):
        house = two_zones(10, 4) + [obligation(0, 1, 10), obligation(1, 0, 14)]
        self.assertEqual(last(house + [(BACK, 1, 1)]), [-7])
        self.assertEqual(last(house + [(BACK, 1, 11)]), [-4])
        self.assertEqual(last(house + [(BACK, 2, 4), (BACK, 1, 4)]), [0, 6])
        self.assertEqual(last(house + [(BACK, 2, 4), (BACK, 1, 5)]), [-7])
        self.assertEqual(last(house + [(BACK, 1, 1), (MOST, 0, 1)]), [0, 14])

    def test_the_right_that_is_named(self):
        told = run(two_zones(9) + [option(0, 1, 2), option(0, 1, 3), option(0, 1, 4), (BACK, 2, 1),
                                   (BACK, 1, 3), (BACK, 3, 5), (BACK, 2, 3), (BACK, 2, 2)])
        self.assertEqual(told[-5:], [[0, 2], [-4], [-4], [-4], [0, 0]])


class Keep(unittest.TestCase):
    def test_nothing_leans_on_it(self):
        self.assertEqual(last(two_zones(10) + [obligation(0, 1, 7), (KEEP, 1)]), [0, 0])
        self.assertEqual(last(two_zones(10) + [option(0, 1, 7), (KEEP, 1)]), [0, 0])

    def test_some_of_it(self):
        house = two_zones(10, 4) + [obligation(0, 1, 10), obligation(1, 0, 11)]
        self.assertEqual(run(house + [(KEEP, 1), (KEEP, 2)])[-2:], [[0, 7], [0, 0]])
        self.assertEqual(last(house + [(BACK, 1, 4)]), [-7])
        self.assertEqual(last(house + [(BACK, 1, 3)]), [0, 7])
        self.assertEqual(last(house + [(BACK, 1, 3), (KEEP, 1)]), [0, 7])

    def test_all_of_it(self):
        house = two_zones(10, 4) + [obligation(0, 1, 10), obligation(1, 0, 14)]
        self.assertEqual(last(house + [(KEEP, 1)]), [0, 10])

    def test_an_option_that_leans_on_it(self):
        house = two_zones(10, 4) + [obligation(0, 1, 10), option(1, 0, 9)]
        self.assertEqual(run(house + [(KEEP, 1), (KEEP, 2)])[-2:], [[0, 5], [0, 0]])

    def test_an_option_whose_way_back_is_full(self):
        """What is promised the other way does not lean on an option."""
        house = two_zones(10, 4) + [option(0, 1, 10), option(1, 0, 4)]
        self.assertEqual(run(house + [(KEEP, 1), (KEEP, 2)])[-2:], [[0, 0], [0, 0]])

    def test_of_several_zones(self):
        house = [(OPEN, 3), (LINE, 0, 1, 5, 0), (LINE, 1, 2, 5, 0), obligation(0, 2, 5), option(2, 1, 3)]
        self.assertEqual(run(house + [(KEEP, 1), (BACK, 1, 2), (BACK, 1, 1)])[-3:], [[0, 3], [0, 3], [-7]])

    def test_great_amounts(self):
        house = [(OPEN, 2), (LINE, 0, 1, BILLION, BILLION), (LINE, 0, 1, BILLION, BILLION),
                 obligation(0, 1, BILLION)]
        self.assertEqual(last(house + [(KEEP, 1)]), [0, 0])
        self.assertEqual(last(house + [option(1, 0, BILLION), (KEEP, 1)]), [0, 0])
        self.assertEqual(last(house + [option(1, 0, BILLION), option(1, 0, BILLION), (KEEP, 1)]), [0, 0])
        self.assertEqual(last(house + [option(1, 0, BILLION)] * 3 + [(KEEP, 1)]), [0, BILLION])

    def test_no_such_right(self):
        self.assertEqual(last([(OPEN, 2), (KEEP, 1)]), [-3])
        self.assertEqual(last(two_zones(9) + [option(0, 1, 2), (KEEP, 2)]), [-3])

    def test_it_changes_nothing(self):
        told = run(two_zones(9) + [obligation(0, 1, 2), (KEEP, 1), (BACK, 1, 2)])
        self.assertEqual(told[-2:], [[0, 0], [0, 0]])


class Edges(unittest.TestCase):
    def test_thirty_rights_of_all_owners(self):
        calls = wide(4) + [option(number % 3, 3, 1, owner=number % 8) for number in range(30)]
        self.assertEqual(run(calls)[-30:], [[0, number] for number in range(1, 31)])

    def test_a_room_that_becomes_less_refuses_the_next_grant(self):
        told = run(two_zones(9) + [(ROOMS, 0, 4, 0), option(0, 1, 5), option(0, 1, 4), (PASS, 1, 1, 4, 0)])
        self.assertEqual(told[-3:], [[-7], [0, 1], [0, 1]])


if __name__ == "__main__":
    unittest.main()
