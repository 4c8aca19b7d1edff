"""money, payin, house (points 21 to 23), and what is held for bids."""

import unittest

from tests.helper import (
    AWARD, BACK, GRANT, HOUSE, MONEY, OPEN, OPTION, PASS, PAYIN, UNBID,
    bid, last, obligation, option, run, settle, told_of, two_zones,
)

GREATEST = 10 ** 15


class Money(unittest.TestCase):
    def test_at_first(self):
        for owner in range(8):
            self.assertEqual(last([(OPEN, 2), (MONEY, owner)]), [0, 0, 0])

    def test_balance_and_free(self):
        house = two_zones(9) + [(PAYIN, 3, 50), bid(0, 1, 4, price=5, owner=3)]
        self.assertEqual(last(house + [(MONEY, 3)]), [0, 50, 30])
        for owner in (0, 1, 2, 4, 5, 6, 7):
            self.assertEqual(last(house + [(MONEY, owner)]), [0, 0, 0])

    def test_free_is_less_by_all_the_owner_s_bids(self):
        house = two_zones(9) + [(PAYIN, 3, 50), bid(0, 1, 4, price=5, owner=3), bid(1, 0, 1, price=7, owner=3, kind=OPTION),
                                bid(0, 1, 9, price=-8, owner=3), bid(0, 1, 9, price=0, owner=3)]
        self.assertEqual(last(house + [(MONEY, 3)]), [0, 50, 23])

    def test_what_is_left_of_a_bid_is_held(self):
        house = two_zones(3) + [(PAYIN, 3, 50), bid(0, 1, 4, price=5, owner=3), (AWARD,)]
        self.assertEqual(last(house + [(MONEY, 3)]), [0, 35, 30])

    def test_it_changes_nothing(self):
        house = two_zones(9) + [(PAYIN, 3, 50), bid(0, 1, 4, price=5, owner=3)]
        self.assertEqual(told_of(house + [(MONEY, 3)]), told_of(house))


class Payin(unittest.TestCase):
    def test_the_balance_then(self):
        told = run(two_zones(9) + [(PAYIN, 4, 30), (PAYIN, 4, 12), (PAYIN, 5, 1), (PAYIN, 4, -20), (MONEY, 4), (MONEY, 5)])
        self.assertEqual(told[-6:], [[0, 30], [0, 42], [0, 1], [0, 22], [0, 22, 22], [0, 1, 1]])

    def test_cash_is_less(self):
        told = run(two_zones(9) + [(PAYIN, 4, 30), (HOUSE,), (PAYIN, 4, -20), (HOUSE,)])
        self.assertEqual(told[-4:], [[0, 30], [0, 0, 0, -30], [0, 10], [0, 0, 0, -10]])

    def test_nothing(self):
        self.assertEqual(last(two_zones(9) + [(PAYIN, 4, 0)]), [0, 0])
        self.assertEqual(told_of(two_zones(9) + [(PAYIN, 4, 0)]), told_of(two_zones(9)))

    def test_the_greatest_and_the_least(self):
        told = run(two_zones(9) + [(PAYIN, 4, GREATEST), (PAYIN, 4, GREATEST), (PAYIN, 4, -GREATEST), (HOUSE,),
                                   (PAYIN, 4, -GREATEST), (PAYIN, 4, -GREATEST), (HOUSE,)])
        self.assertEqual(told[2:], [[0, GREATEST], [0, 2 * GREATEST], [0, GREATEST], [0, 0, 0, -GREATEST], [0, 0], [-6],
                                    [0, 0, 0, 0]])
        self.assertEqual(last(two_zones(9) + [(PAYIN, 4, GREATEST + 1)]), [-1])
        self.assertEqual(last(two_zones(9) + [(PAYIN, 4, GREATEST), (PAYIN, 4, -GREATEST - 1)]), [-1])

    def test_all_that_is_free_and_one_more(self):
        rich = two_zones(9) + [(PAYIN, 4, 30)]
        self.assertEqual(last(rich + [(PAYIN, 4, -30)]), [0, 0])
        self.assertEqual(last(rich + [(PAYIN, 4, -31)]), [-6])
        self.assertEqual(last(rich + [(PAYIN, 3, -1)]), [-6])

    def test_held_for_bids(self):
        rich = two_zones(9) + [(PAYIN, 4, 30), bid(0, 1, 4, price=5, owner=4)]
        self.assertEqual(last(rich + [(PAYIN, 4, -11)]), [-6])
        self.assertEqual(last(rich + [(PAYIN, 4, -10)]), [0, 20])
        self.assertEqual(last(rich + [(UNBID, 1), (PAYIN, 4, -30)]), [0, 0])

    def test_bids_at_prices_below_0_hold_nothing(self):
        rich = two_zones(9) + [(PAYIN, 4, 30), bid(0, 1, 4, price=-5, owner=4)]
        self.assertEqual(last(rich + [(PAYIN, 4, -30)]), [0, 0])
        self.assertEqual(last(rich + [(PAYIN, 4, -31)]), [-6])


class House(unittest.TestCase):
    def test_at_first(self):
        self.assertEqual(last([(OPEN, 2), (HOUSE,)]), [0, 0, 0, 0])

    def test_till_sales_cash(self):
        house = two_zones(10, 4) + [(PAYIN, 1, 100), option(0, 1, 2, owner=1, price=7), settle([0, 3], [10])]
        self.assertEqual(run(house + [(HOUSE,), (MONEY, 1)])[-2:], [[0, 24, 14, -130], [0, 92, 92]])

    def test_what_owners_pay_one_another_is_not_the_house_s(self):
        house = two_zones(9) + [(PAYIN, 2, 50), option(0, 1, 3, owner=1), (PASS, 1, 2, 3, 10), (BACK, 1, 3), (HOUSE,)]
        self.assertEqual(last(house), [0, 0, 0, -50])

    def test_it_changes_nothing(self):
        house = two_zones(9) + [(PAYIN, 3, 50)]
        self.assertEqual(told_of(house + [(HOUSE,)]), told_of(house))


class Held(unittest.TestCase):
    """Owner 1 has 30, of which 20 are held for a bid; owner 2 has 5 and a right."""

    RICH = two_zones(20, 9) + [
        (PAYIN, 1, 30), (PAYIN, 2, 5), option(0, 1, 3, owner=2), option(0, 1, 3, owner=1), bid(1, 0, 4, price=5, owner=1),
    ]

    def test_grant(self):
        self.assertEqual(last(self.RICH + [(GRANT, 1, 0, 1, OPTION, 10, 1)]), [0, 3])
        self.assertEqual(last(self.RICH + [(GRANT, 1, 0, 1, OPTION, 11, 1)]), [-6])
        self.assertEqual(last(self.RICH + [(UNBID, 1), (GRANT, 1, 0, 1, OPTION, 11, 1)]), [0, 3])

    def test_pass_to_who_has_bids(self):
        self.assertEqual(last(self.RICH + [(PASS, 1, 1, 1, 10)]), [0, 3])
        self.assertEqual(last(self.RICH + [(PASS, 1, 1, 1, 11)]), [-6])
        self.assertEqual(last(self.RICH + [(UNBID, 1), (PASS, 1, 1, 1, 11)]), [0, 3])

    def test_pass_by_who_has_bids(self):
        self.assertEqual(last(self.RICH + [(PASS, 2, 2, 1, -10)]), [0, 3])
        self.assertEqual(last(self.RICH + [(PASS, 2, 2, 1, -11)]), [-6])
        self.assertEqual(last(self.RICH + [(UNBID, 1), (PASS, 2, 2, 1, -11)]), [0, 3])

    def test_bid(self):
        self.assertEqual(last(self.RICH + [bid(0, 1, 10, price=1, owner=1)]), [0, 2])
        self.assertEqual(last(self.RICH + [bid(0, 1, 11, price=1, owner=1)]), [-6])
        self.assertEqual(last(self.RICH + [(UNBID, 1), bid(0, 1, 11, price=1, owner=1)]), [0, 2])

    def test_payin(self):
        self.assertEqual(last(self.RICH + [(PAYIN, 1, -10)]), [0, 20])
        self.assertEqual(last(self.RICH + [(PAYIN, 1, -11)]), [-6])

    def test_what_was_awarded_is_paid_and_no_longer_held(self):
        house = self.RICH + [(AWARD,)]
        self.assertEqual(run(house + [(MONEY, 1)])[-2:], [[0, 1, 3, 1, 3, 4], [0, 10, 10]])

    def test_nothing_free_still_takes_at_a_price_of_0(self):
        house = self.RICH + [(PAYIN, 1, -10)]
        self.assertEqual(last(house + [(GRANT, 1, 0, 1, OPTION, 1, 0)]), [0, 3])
        self.assertEqual(last(house + [(GRANT, 1, 0, 1, OPTION, 1, 1)]), [-6])
        self.assertEqual(last(house + [obligation(0, 1, 1, owner=1, price=-5), (MONEY, 1)]), [0, 25, 5])


if __name__ == "__main__":
    unittest.main()
