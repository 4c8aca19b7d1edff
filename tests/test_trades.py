"""pass, join, chain, via, annul (points 8 to 12)."""

import unittest

from tests.helper import (
    ANNUL, BACK, BILLION, CHAIN, GRANT, JOIN, KEEP, LINE, MONEY, MOST, OBLIGATION, OPEN, OPTION, PASS, VIA,
    Balances, last, obligation, option, run, settle, thirty_rights, two_zones, wide,
)


class Pass(unittest.TestCase, Balances):
    def test_the_whole_right(self):
        told = run(two_zones(9) + [option(0, 1, 5), (PASS, 1, 3, 5, 0), (PASS, 1, 3, 5, 0), (PASS, 1, 0, 5, 0),
                                   option(0, 1, 4)])
        self.assertEqual(told[-4:], [[0, 1], [-4], [0, 1], [0, 2]])

    def test_a_part_of_it(self):
        house = two_zones(9) + [option(0, 1, 5), (PASS, 1, 3, 2, 0)]
        self.assertEqual(last(house), [0, 2])
        self.assertEqual(run(house + [(BACK, 1, 4), (BACK, 1, 3)])[-2:], [[-4], [0, 0]])
        self.assertEqual(run(house + [(BACK, 2, 3), (BACK, 2, 2)])[-2:], [[-4], [0, 0]])
        self.assertEqual(run(house + [(PASS, 1, 0, 1, 0), (PASS, 2, 3, 1, 0)])[-2:], [[-4], [-4]])
        self.assertEqual(last(house + [(PASS, 2, 0, 2, 0)]), [0, 2])
        self.assertEqual(last(house + [(MOST, 0, 1)]), [0, 4])
        self.assertEqual(last(house + [option(0, 1, 4)]), [0, 3])

    def test_the_new_right_is_of_the_same_zones_and_kind(self):
        for kind in (OBLIGATION, OPTION):
            house = wide(3) + [(GRANT, 1, 2, 1, kind, 5, 0), (GRANT, 4, 2, 1, kind, 5, 0), (PASS, 1, 4, 2, 0)]
            self.assertEqual(run(house + [(JOIN, 2, 3)])[-2:], [[0, 3], [0, 7]])
            house = wide(3) + [(GRANT, 1, 2, 1, kind, 5, 0), (GRANT, 4, 2, 1, 1 - kind, 5, 0), (PASS, 1, 4, 2, 0)]
            self.assertEqual(run(house + [(JOIN, 2, 3)])[-2:], [[0, 3], [-4]])

    def test_a_whole_right_keeps_its_zones_kind_and_amount(self):
        for kind in (OBLIGATION, OPTION):
            house = wide(3) + [(GRANT, 1, 2, 1, kind, 5, 0), (GRANT, 4, 2, 1, kind, 6, 0), (PASS, 1, 4, 5, 0)]
            self.assertEqual(run(house + [(JOIN, 2, 1)])[-2:], [[0, 1], [0, 11]])

    def test_the_buyer_pays_the_owner(self):
        rich = two_zones(20) + [option(0, 1, 5, owner=1), option(0, 1, 1, owner=2, price=-30)]
        whole = rich + [(PASS, 1, 2, 5, 4)]
        self.assertEqual(last(whole), [0, 1])
        self.assert_balance(whole, 1, 20)
        self.assert_balance(whole, 2, 10)
        part = rich + [(PASS, 1, 2, 3, 4)]
        self.assertEqual(last(part), [0, 3])
        self.assert_balance(part, 1, 12)
        self.assert_balance(part, 2, 18)

    def test_a_price_below_0_is_paid_by_the_owner(self):
        rich = two_zones(20) + [option(0, 1, 5, owner=1, price=-6)]
        sold = rich + [(PASS, 1, 2, 5, -4)]
        self.assertEqual(last(sold), [0, 1])
        self.assert_balance(sold, 1, 10)
        self.assert_balance(sold, 2, 20)

    def test_all_that_is_free_and_one_more(self):
        rich = two_zones(20) + [option(0, 1, 5, owner=1), option(0, 1, 1, owner=2, price=-20)]
        self.assertEqual(last(rich + [(PASS, 1, 2, 5, 4)]), [0, 1])
        self.assertEqual(last(rich + [(PASS, 1, 2, 3, 7)]), [-6])
        rich = two_zones(20) + [option(0, 1, 5, owner=1, price=-4)]
        self.assertEqual(last(rich + [(PASS, 1, 2, 5, -4)]), [0, 1])
        self.assertEqual(last(rich + [(PASS, 1, 2, 3, -7)]), [-6])

    def test_the_other_one_s_money_does_not_help(self):
        owner_rich = two_zones(20) + [option(0, 1, 5, owner=1, price=-4)]
        self.assertEqual(last(owner_rich + [(PASS, 1, 2, 1, 1)]), [-6])
        buyer_rich = two_zones(20) + [option(0, 1, 5, owner=1), option(0, 1, 1, owner=2, price=-20)]
        self.assertEqual(last(buyer_rich + [(PASS, 1, 2, 1, -1)]), [-6])

    def test_where_nothing_has_to_be_paid_nothing_has_to_be_free(self):
        house = two_zones(9, 9) + [obligation(0, 1, 3, owner=1), obligation(0, 1, 3, owner=2), settle([1, 0], [-9])]
        for price, answer in ((1, [-6]), (-1, [-6]), (0, [0, 3])):
            told = run(house + [(PASS, 1, 2, 2, price), (MONEY, 1), (MONEY, 2)])
            self.assertEqual(told[-3:], [answer, [0, -3, -3], [0, -3, -3]])

    def test_no_such_right(self):
        self.assertEqual(last(two_zones(9) + [(PASS, 1, 1, 1, 0)]), [-3])
        self.assertEqual(last(two_zones(9) + [option(0, 1, 5), (PASS, 2, 0, 9, 9)]), [-3])

    def test_too_much_of_it_or_to_its_owner(self):
        house = two_zones(9) + [option(0, 1, 5, owner=1)]
        self.assertEqual(last(house + [(PASS, 1, 2, 6, 0)]), [-4])
        self.assertEqual(last(house + [(PASS, 1, 1, 5, 0)]), [-4])
        self.assertEqual(last(house + [(PASS, 1, 1, 2, 0)]), [-4])
        self.assertEqual(last(house + [(PASS, 1, 2, 6, 1)]), [-4])

    def test_full(self):
        house = two_zones(99) + thirty_rights()
        self.assertEqual(last(house + [(PASS, 9, 1, 1, 0)]), [-5])
        self.assertEqual(last(house + [(PASS, 9, 1, 2, 0)]), [0, 9])
        self.assertEqual(last(house + [(PASS, 9, 1, 1, 1)]), [-5])
        self.assertEqual(last(house + [(PASS, 9, 1, 2, 1)]), [-6])
        self.assertEqual(last(house + [(PASS, 9, 1, 3, 0)]), [-4])
        self.assertEqual(last(house + [(PASS, 9, 7, 1, 0)]), [-4])
        self.assertEqual(last(house + [(PASS, 31, 1, 1, 0)]), [-3])

    def test_twenty_nine_rights_and_one_more(self):
        house = two_zones(99) + thirty_rights() + [(BACK, 4, 2)]
        self.assertEqual(run(house + [(PASS, 9, 1, 1, 0), (PASS, 10, 1, 1, 0)])[-2:], [[0, 31], [-5]])


class Join(unittest.TestCase):
    def test_the_sum(self):
        house = two_zones(20) + [option(0, 1, 5), option(0, 1, 7), (JOIN, 1, 2)]
        self.assertEqual(last(house), [0, 12])
        self.assertEqual(run(house + [(KEEP, 2), (BACK, 1, 13), (BACK, 1, 12)])[-3:], [[-3], [-4], [0, 0]])
        self.assertEqual(last(house + [(MOST, 0, 1)]), [0, 8])
        self.assertEqual(last(house + [option(0, 1, 8)]), [0, 3])

    def test_the_first_stays_also_if_it_is_the_newer_one(self):
        house = two_zones(20) + [obligation(0, 1, 5), obligation(0, 1, 7), (JOIN, 2, 1)]
        self.assertEqual(run(house + [(KEEP, 1), (BACK, 2, 12)])[-3:], [[0, 12], [-3], [0, 0]])

    def test_not_there(self):
        house = two_zones(20) + [option(0, 1, 5)]
        for right, other in ((1, 2), (2, 1), (2, 2), (2, 3)):
            self.assertEqual(last(house + [(JOIN, right, other)]), [-3])

    def test_one_right(self):
        self.assertEqual(last(two_zones(20) + [option(0, 1, 5), (JOIN, 1, 1)]), [-4])

    def test_not_alike(self):
        first = (GRANT, 1, 0, 1, OPTION, 5, 0)
        for other in ((GRANT, 2, 0, 1, OPTION, 5, 0), (GRANT, 1, 2, 1, OPTION, 5, 0),
                      (GRANT, 1, 0, 2, OPTION, 5, 0), (GRANT, 1, 0, 1, OBLIGATION, 5, 0),
                      (GRANT, 1, 1, 0, OPTION, 5, 0)):
            self.assertEqual(run(wide(3) + [first, other, (JOIN, 1, 2)])[-2:], [[0, 2], [-4]])
            self.assertEqual(run(wide(3) + [other, first, (JOIN, 1, 2)])[-2:], [[0, 2], [-4]])

    def test_a_sum_of_10_to_the_9_and_above(self):
        lines = [(OPEN, 2), (LINE, 0, 1, BILLION, 0), (LINE, 0, 1, BILLION, 0)]
        self.assertEqual(last(lines + [option(0, 1, BILLION - 1), option(0, 1, 1), (JOIN, 1, 2)]), [0, BILLION])
        self.assertEqual(last(lines + [option(0, 1, BILLION), option(0, 1, 1), (JOIN, 1, 2)]), [-4])
        self.assertEqual(last(lines + [option(0, 1, BILLION), option(0, 1, 1), (JOIN, 2, 1)]), [-4])

    def test_makes_place_for_another(self):
        told = run(two_zones(99) + thirty_rights() + [(JOIN, 3, 4), option(0, 1, 1)])
        self.assertEqual(told[-2:], [[0, 4], [0, 31]])


class Chain(unittest.TestCase):
    def house(self, kind=OBLIGATION, first=5, second=5):
        return wide(3) + [(GRANT, 1, 0, 1, kind, first, 0), (GRANT, 1, 1, 2, kind, second, 0)]

    def test_the_whole_of_both(self):
        for kind in (OBLIGATION, OPTION):
            house = self.house(kind) + [(CHAIN, 1, 2, 5)]
            self.assertEqual(run(house + [(KEEP, 1), (KEEP, 2), (BACK, 3, 6), (BACK, 3, 5)])[-5:],
                             [[0, 3], [-3], [-3], [-4], [0, 0]])

    def test_a_part_of_both(self):
        house = self.house(OPTION, 5, 7) + [(CHAIN, 1, 2, 4)]
        self.assertEqual(last(house), [0, 3])
        self.assertEqual(run(house + [(BACK, 1, 2), (BACK, 1, 1)])[-2:], [[-4], [0, 0]])
        self.assertEqual(run(house + [(BACK, 2, 4), (BACK, 2, 3)])[-2:], [[-4], [0, 0]])
        self.assertEqual(run(house + [(BACK, 3, 5), (BACK, 3, 4)])[-2:], [[-4], [0, 0]])

    def test_the_whole_of_one(self):
        house = self.house(OPTION, 4, 7) + [(CHAIN, 1, 2, 4)]
        self.assertEqual(run(house + [(KEEP, 1), (BACK, 2, 3)])[-3:], [[0, 3], [-3], [0, 0]])
        house = self.house(OPTION, 7, 4) + [(CHAIN, 1, 2, 4)]
        self.assertEqual(run(house + [(KEEP, 2), (BACK, 1, 3)])[-3:], [[0, 3], [-3], [0, 0]])

    def test_the_new_right_s_owner_zones_and_kind(self):
        for kind in (OBLIGATION, OPTION):
            house = self.house(kind) + [(CHAIN, 1, 2, 5)]
            self.assertEqual(last(house + [(GRANT, 1, 0, 2, kind, 2, 0), (JOIN, 3, 4)]), [0, 7])
            self.assertEqual(last(house + [(GRANT, 1, 0, 2, 1 - kind, 2, 0), (JOIN, 3, 4)]), [-4])

    def test_an_option_from_end_to_end_promises_less(self):
        house = [(OPEN, 3), (LINE, 0, 1, 5, 0), (LINE, 1, 2, 5, 0), (LINE, 0, 2, 3, 0),
                 option(0, 1, 5), option(1, 2, 5)]
        told = run(house + [(MOST, 0, 2), (CHAIN, 1, 2, 5), (MOST, 0, 2), (MOST, 0, 1), (MOST, 1, 2)])
        self.assertEqual(told[-5:], [[0, 3], [0, 3], [0, 3], [0, 3], [0, 3]])

    def test_not_there(self):
        for right, other in ((1, 3), (3, 1), (3, 3), (3, 4)):
            self.assertEqual(last(self.house() + [(CHAIN, right, other, 9)]), [-3])

    def test_not_fitting(self):
        self.assertEqual(last(self.house() + [(CHAIN, 1, 1, 1)]), [-4])
        self.assertEqual(last(self.house() + [(CHAIN, 2, 1, 1)]), [-4])
        self.assertEqual(last(self.house() + [(CHAIN, 1, 2, 6)]), [-4])
        self.assertEqual(last(self.house(OPTION, 5, 6) + [(CHAIN, 1, 2, 6)]), [-4])
        self.assertEqual(last(self.house(OPTION, 6, 5) + [(CHAIN, 1, 2, 6)]), [-4])
        first = (GRANT, 1, 0, 1, OPTION, 5, 0)
        for other in ((GRANT, 2, 1, 2, OPTION, 5, 0), (GRANT, 1, 1, 2, OBLIGATION, 5, 0),
                      (GRANT, 1, 1, 0, OPTION, 5, 0), (GRANT, 1, 2, 1, OPTION, 5, 0),
                      (GRANT, 1, 0, 2, OPTION, 5, 0), (GRANT, 1, 0, 1, OPTION, 5, 0)):
            self.assertEqual(run(wide(3) + [first, other, (CHAIN, 1, 2, 1)])[-2:], [[0, 2], [-4]])

    def test_full(self):
        """The chained rights are 29 and 30; each that goes makes place."""
        for first, second, answer in ((3, 3, [-5]), (2, 3, [0, 31]), (3, 2, [0, 31]), (2, 2, [0, 31])):
            house = wide(3) + thirty_rights()[:28] + [option(0, 1, first, owner=1), option(1, 2, second, owner=1)]
            self.assertEqual(last(house + [(CHAIN, 29, 30, 2)]), answer)

    def test_order_of_refusals(self):
        house = wide(3) + thirty_rights()[:28] + [option(0, 1, 3, owner=1), option(1, 2, 3, owner=1)]
        self.assertEqual(last(house + [(CHAIN, 29, 30, 4)]), [-4])
        self.assertEqual(last(house + [(CHAIN, 29, 31, 4)]), [-3])

    def test_twenty_nine_rights(self):
        house = wide(3) + thirty_rights()[:27] + [option(0, 1, 3, owner=1), option(1, 2, 3, owner=1)]
        self.assertEqual(run(house + [(CHAIN, 28, 29, 1), (CHAIN, 28, 29, 1)])[-2:], [[0, 30], [-5]])


class Via(unittest.TestCase):
    def test_two_new_rights(self):
        for kind in (OBLIGATION, OPTION):
            house = wide(3) + [(GRANT, 1, 0, 2, kind, 5, 0), (VIA, 1, 1)]
            self.assertEqual(last(house), [0, 2, 3])
            self.assertEqual(last(house + [(KEEP, 1)]), [-3])
            self.assertEqual(last(house + [(GRANT, 1, 0, 1, kind, 2, 0), (JOIN, 2, 4)]), [0, 7])
            self.assertEqual(last(house + [(GRANT, 1, 1, 2, kind, 2, 0), (JOIN, 3, 4)]), [0, 7])
            self.assertEqual(last(house + [(GRANT, 1, 0, 1, 1 - kind, 2, 0), (JOIN, 2, 4)]), [-4])
            self.assertEqual(last(house + [(GRANT, 1, 1, 2, 1 - kind, 2, 0), (JOIN, 3, 4)]), [-4])
            self.assertEqual(last(house + [(CHAIN, 2, 3, 5)]), [0, 4])

    def test_no_such_right(self):
        self.assertEqual(last(wide(3) + [(VIA, 1, 1)]), [-3])
        self.assertEqual(last(wide(3) + [option(0, 2, 5), (VIA, 2, 5)]), [-3])

    def test_zones_that_do_not_fit(self):
        for zone in (0, 2, 3, 4, 5):
            self.assertEqual(last(wide(3) + [option(0, 2, 5), (VIA, 1, zone)]), [-4])
        self.assertEqual(last(wide(4) + [option(0, 2, 5), (VIA, 1, 3)]), [0, 2, 3])

    def test_full(self):
        house = wide(3) + thirty_rights()
        self.assertEqual(last(house + [(VIA, 30, 2)]), [-5])
        self.assertEqual(last(house + [(VIA, 30, 1)]), [-4])
        self.assertEqual(last(house + [(VIA, 31, 2)]), [-3])
        self.assertEqual(run(house + [(BACK, 1, 2), (VIA, 30, 2), (VIA, 29, 2)])[-2:], [[0, 31, 32], [-5]])

    def test_full_ahead_of_not_safe(self):
        house = [(OPEN, 3), (LINE, 0, 1, 60, 0)] + thirty_rights()
        self.assertEqual(last(house + [(VIA, 30, 2)]), [-5])
        self.assertEqual(last(house + [(BACK, 1, 2), (VIA, 30, 2)]), [-7])

    def test_an_option_with_no_way_by_the_zone(self):
        house = [(OPEN, 3), (LINE, 0, 2, 5, 0), (LINE, 0, 1, 4, 0), (LINE, 1, 2, 5, 0), option(0, 2, 5)]
        self.assertEqual(run(house + [(VIA, 1, 1), (MOST, 0, 2), (BACK, 1, 5)])[-3:], [[-7], [0, 4], [0, 0]])
        self.assertEqual(last(house + [(BACK, 1, 1), (VIA, 1, 1)]), [0, 2, 3])
        self.assertEqual(last(house + [(BACK, 1, 1), option(0, 1, 1), (VIA, 1, 1)]), [-7])

    def test_obligations_need_no_way_by_the_zone(self):
        """Into and out of the zone the two are promised alike, so nothing more is."""
        house = [(OPEN, 3), (LINE, 0, 2, 5, 0), obligation(0, 2, 5), (VIA, 1, 1)]
        self.assertEqual(last(house), [0, 2, 3])
        self.assertEqual(run(house + [(KEEP, 2), (KEEP, 3)])[-2:], [[0, 5], [0, 5]])

    def test_the_old_right_makes_room_for_the_new_ones(self):
        house = [(OPEN, 3), (LINE, 0, 1, 5, 0), (LINE, 1, 2, 5, 0), option(0, 2, 5), (VIA, 1, 1)]
        self.assertEqual(last(house), [0, 2, 3])
        self.assertEqual(run(house + [(MOST, 0, 1), (MOST, 1, 2)])[-2:], [[0, 0], [0, 0]])


class Annul(unittest.TestCase):
    def house(self, first=5, second=7):
        return wide(3) + [obligation(0, 1, first, owner=1), obligation(1, 0, second, owner=1)]

    def test_what_is_left(self):
        self.assertEqual(last(self.house() + [(ANNUL, 1, 2, 3)]), [0, 2, 4])
        self.assertEqual(last(self.house() + [(ANNUL, 2, 1, 3)]), [0, 4, 2])
        told = run(self.house() + [(ANNUL, 1, 2, 3), (BACK, 1, 3), (BACK, 2, 5), (BACK, 1, 2), (BACK, 2, 4)])
        self.assertEqual(told[-4:], [[-4], [-4], [0, 0], [0, 0]])

    def test_where_nothing_is_left(self):
        self.assertEqual(run(self.house() + [(ANNUL, 1, 2, 5), (KEEP, 1), (BACK, 2, 2)])[-3:], [[0, 0, 2], [-3], [0, 0]])
        self.assertEqual(run(self.house(7, 5) + [(ANNUL, 1, 2, 5), (BACK, 1, 2), (KEEP, 2)])[-3:],
                         [[0, 2, 0], [0, 0], [-3]])
        self.assertEqual(run(self.house(5, 5) + [(ANNUL, 1, 2, 5), (KEEP, 1), (KEEP, 2)])[-3:], [[0, 0, 0], [-3], [-3]])

    def test_all_that_is_promised_stays_the_same(self):
        house = two_zones(10, 4) + [obligation(0, 1, 10), obligation(1, 0, 6)]
        told = run(house + [(MOST, 0, 1), (MOST, 1, 0), (ANNUL, 1, 2, 6), (MOST, 0, 1), (MOST, 1, 0)])
        self.assertEqual(told[-5:], [[0, 6], [0, 8], [0, 4, 0], [0, 6], [0, 8]])

    def test_not_there(self):
        for right, other in ((1, 3), (3, 1), (3, 3), (3, 4)):
            self.assertEqual(last(self.house() + [(ANNUL, right, other, 9)]), [-3])

    def test_not_fitting(self):
        self.assertEqual(last(self.house() + [(ANNUL, 1, 1, 1)]), [-4])
        self.assertEqual(last(self.house(5, 7) + [(ANNUL, 1, 2, 6)]), [-4])
        self.assertEqual(last(self.house(7, 5) + [(ANNUL, 1, 2, 6)]), [-4])
        first = (GRANT, 1, 0, 1, OBLIGATION, 5, 0)
        for other in ((GRANT, 2, 1, 0, OBLIGATION, 5, 0), (GRANT, 1, 1, 0, OPTION, 5, 0),
                      (GRANT, 1, 1, 2, OBLIGATION, 5, 0), (GRANT, 1, 2, 0, OBLIGATION, 5, 0),
                      (GRANT, 1, 0, 1, OBLIGATION, 5, 0)):
            self.assertEqual(run(wide(3) + [first, other, (ANNUL, 1, 2, 1)])[-2:], [[0, 2], [-4]])
            self.assertEqual(run(wide(3) + [first, other, (ANNUL, 2, 1, 1)])[-2:], [[0, 2], [-4]])

    def test_two_options(self):
        self.assertEqual(last(wide(3) + [option(0, 1, 5), option(1, 0, 5), (ANNUL, 1, 2, 1)]), [-4])

    def test_numbers_are_not_given_again(self):
        told = run(self.house(5, 5) + [(ANNUL, 1, 2, 5), option(0, 1, 1)])
        self.assertEqual(told[-1], [0, 3])


if __name__ == "__main__":
    unittest.main()
