"""settle, payout, value (points 16 to 18)."""

import unittest

from tests.helper import (
    BACK, BILLION, GRANT, HOUSE, LINE, MONEY, OBLIGATION, OPEN, OPTION, PASS, PAYIN,
    bid, last, obligation, option, payout, run, settle, told_of, two_zones, value,
)

MILLION = 10 ** 6

# Three zones in a ring; rights of owners 0, 1 and 2.
RING = [
    (OPEN, 3), (LINE, 0, 1, 10, 4), (LINE, 1, 2, 7, 3), (LINE, 2, 0, 5, 6),
    obligation(0, 1, 6, owner=0), option(1, 2, 4, owner=1), obligation(2, 0, 3, owner=1), option(2, 1, 2, owner=2),
    option(0, 1, 1, owner=1),
]


def balances(calls):
    return [answer[1] for answer in run(calls + [(MONEY, owner) for owner in range(8)])[len(calls):]]


class Settle(unittest.TestCase):
    def test_rent_and_payouts(self):
        house = two_zones(10, 4) + [obligation(0, 1, 6, owner=1), option(1, 0, 4, owner=2)]
        told = run(house + [settle([20, 50], [10]), (HOUSE,)])
        self.assertEqual(told[-2:], [[0, 300, 180], [0, 120, 0, -300]])
        self.assertEqual(balances(house + [settle([20, 50], [10])]), [0, 180, 0, 0, 0, 0, 0, 0])

    def test_the_other_way(self):
        house = two_zones(10, 4) + [obligation(0, 1, 6, owner=1), option(1, 0, 4, owner=2)]
        told = run(house + [settle([50, 20], [-4]), (HOUSE,)])
        self.assertEqual(told[-2:], [[0, 120, -60], [0, 180, 0, -120]])
        self.assertEqual(balances(house + [settle([50, 20], [-4])]), [0, -180, 120, 0, 0, 0, 0, 0])

    def test_of_several_zones_and_owners(self):
        """Prices 5, 9, 7: from 0 to 1 is +4, from 1 to 2 is -2, from 2 to 0 is -2."""
        call = settle([5, 9, 7], [10, -3, -6])
        self.assertEqual(run(RING + [call, (HOUSE,)])[-2:], [[0, 40 + 6 + 12, 24 + 0 - 6 + 4 + 4], [0, 32, 0, -58]])
        self.assertEqual(balances(RING + [call]), [24, -6 + 4, 4, 0, 0, 0, 0, 0])

    def test_settles_add_up(self):
        house = two_zones(10, 4) + [obligation(0, 1, 6, owner=1), (PAYIN, 1, 7)]
        house += [settle([20, 50], [10]), settle([3, 1], [-4]), settle([3, 3], [1])]
        self.assertEqual(run(house)[-3:], [[0, 300, 180], [0, 8, -12], [0, 0, 0]])
        self.assertEqual(run(house + [(HOUSE,), (MONEY, 1)])[-2:], [[0, 140, 0, -7 - 308], [0, 175, 175]])

    def test_payouts_below_0_and_as_great_as_the_rent(self):
        house = two_zones(10, 4) + [obligation(0, 1, 10, owner=1), obligation(1, 0, 14, owner=2)]
        told = run(house + [settle([0, 5], [10]), settle([5, 0], [-4]), (HOUSE,)])
        self.assertEqual(told[-3:], [[0, 50, -20], [0, 20, 20], [0, 70, 0, -70]])

    def test_rights_of_one_owner_are_added(self):
        house = two_zones(10, 4) + [obligation(0, 1, 3, owner=5), option(0, 1, 2, owner=5), obligation(1, 0, 4, owner=5),
                                    option(1, 0, 1, owner=5)]
        self.assertEqual(balances(house + [settle([0, 10], [10])])[5], 30 + 20 - 40 + 0)
        self.assertEqual(balances(house + [settle([10, 0], [-4])])[5], -30 + 0 + 40 + 10)

    def test_the_new_owner_is_paid(self):
        house = two_zones(10) + [obligation(0, 1, 3, owner=5), (PASS, 1, 6, 1, 0), settle([0, 10], [10])]
        self.assertEqual(balances(house), [0, 0, 0, 0, 0, 20, 10, 0])

    def test_bids_are_paid_nothing(self):
        house = two_zones(10) + [bid(0, 1, 3, owner=5), settle([0, 10], [10])]
        self.assertEqual(run(house)[-1], [0, 100, 0])
        self.assertEqual(balances(house), [0] * 8)

    def test_rights_stay(self):
        house = two_zones(10) + [obligation(0, 1, 3), settle([0, 10], [10])]
        self.assertEqual(last(house + [(BACK, 1, 3)]), [0, 0])

    def test_equal_prices(self):
        for price in (-MILLION, -1, 0, 7, MILLION):
            for flow in (-4, -3, 0, 9, 10):
                self.assertEqual(last(two_zones(10, 4) + [obligation(0, 1, 3), settle([price, price], [flow])]), [0, 0, 0])
            for flow in (-5, 11, -BILLION, BILLION):
                self.assertEqual(last(two_zones(10, 4) + [settle([price, price], [flow])]), [-8])

    def test_a_dearer_second_zone_wants_all_the_room_forth(self):
        for flow in (-5, -4, 0, 9, 11):
            self.assertEqual(last(two_zones(10, 4) + [settle([2, 3], [flow])]), [-8])
        self.assertEqual(last(two_zones(10, 4) + [settle([2, 3], [10])]), [0, 10, 0])
        self.assertEqual(last(two_zones(10, 4) + [settle([-3, -2], [10])]), [0, 10, 0])

    def test_a_dearer_first_zone_wants_all_the_room_back(self):
        for flow in (-5, -3, 0, 10, 11):
            self.assertEqual(last(two_zones(10, 4) + [settle([3, 2], [flow])]), [-8])
        self.assertEqual(last(two_zones(10, 4) + [settle([3, 2], [-4])]), [0, 4, 0])
        self.assertEqual(last(two_zones(10, 4) + [settle([-2, -3], [-4])]), [0, 4, 0])

    def test_a_line_s_first_zone_is_not_always_the_lesser(self):
        house = [(OPEN, 2), (LINE, 1, 0, 10, 4)]
        self.assertEqual(last(house + [settle([2, 3], [-4])]), [0, 4, 0])
        self.assertEqual(last(house + [settle([3, 2], [10])]), [0, 10, 0])
        self.assertEqual(last(house + [settle([2, 3], [10])]), [-8])
        self.assertEqual(last(house + [settle([3, 2], [-4])]), [-8])

    def test_lines_without_room(self):
        for prices in ([0, 0], [0, 1], [1, 0]):
            self.assertEqual(last(two_zones(0, 0) + [settle(prices, [0])]), [0, 0, 0])
            self.assertEqual(last(two_zones(0, 0) + [settle(prices, [1])]), [-8])
            self.assertEqual(last(two_zones(0, 0) + [settle(prices, [-1])]), [-8])

    def test_each_line_has_to_fit(self):
        fitting = [10, -3, -6]
        for k in range(3):
            for more in (-1, 1):
                flows = list(fitting)
                flows[k] += more
                self.assertEqual(last(RING + [settle([5, 9, 7], flows)]), [-8])

    def test_flows_belong_to_lines_in_their_order(self):
        house = [(OPEN, 3), (LINE, 0, 1, 10, 0), (LINE, 1, 2, 20, 0)]
        self.assertEqual(last(house + [settle([0, 1, 3], [10, 20])]), [0, 50, 0])
        self.assertEqual(last(house + [settle([0, 1, 3], [20, 10])]), [-8])

    def test_without_lines(self):
        self.assertEqual(last([(OPEN, 2), settle([5, 9], [])]), [0, 0, 0])

    def test_rows_that_have_not_one_number_for_each(self):
        for prices in ([], [2], [2, 3, 4], [2] * 64):
            self.assertEqual(last(two_zones(10, 4) + [settle(prices, [10])]), [-4])
        for flows in ([], [10, 10], [10] * 64):
            self.assertEqual(last(two_zones(10, 4) + [settle([2, 3], flows)]), [-4])
        self.assertEqual(last(two_zones(10, 4) + [settle([10], [2, 3])]), [-4])
        self.assertEqual(last([(OPEN, 2), settle([2, 3], [0])]), [-4])
        self.assertEqual(last([(OPEN, 2), settle([], [])]), [-4])

    def test_order_of_refusals(self):
        self.assertEqual(last(two_zones(10, 4) + [settle([2, 3, 4], [11])]), [-4])
        self.assertEqual(last(two_zones(10, 4) + [settle([2, 3], [11, 11])]), [-4])
        self.assertEqual(last(two_zones(10, 4) + [settle([2, 3], [11])]), [-8])

    def test_the_greatest_numbers(self):
        house = [(OPEN, 2)] + [(LINE, 0, 1, BILLION, BILLION)] * 10 + [obligation(0, 1, BILLION, owner=1)] * 10
        up = settle([-MILLION, MILLION], [BILLION] * 10)
        down = settle([MILLION, -MILLION], [-BILLION] * 10)
        great = 2 * 10 ** 16
        self.assertEqual(run(house + [up, (HOUSE,), (MONEY, 1)])[-3:],
                         [[0, great, great], [0, 0, 0, -great], [0, great, great]])
        self.assertEqual(run(house + [down, (HOUSE,), (MONEY, 1)])[-3:],
                         [[0, great, -great], [0, 2 * great, 0, -great], [0, -great, -great]])
        self.assertEqual(run(house + [up] * 100 + [(MONEY, 1)])[-1], [0, 100 * great, 100 * great])


class FreeBelowZero(unittest.TestCase):
    """Owner 1 has paid 30 behind the settle and has 20 less than nothing."""

    HOUSE_IN_DEBT = two_zones(10, 10) + [
        obligation(0, 1, 6, owner=1), (PAYIN, 1, 10), option(0, 1, 1, owner=2), (PAYIN, 2, 99), settle([5, 0], [-10]),
    ]

    def test_balance_and_free(self):
        self.assertEqual(last(self.HOUSE_IN_DEBT + [(MONEY, 1)]), [0, -20, -20])

    def test_what_is_held_makes_free_less_still(self):
        house = self.HOUSE_IN_DEBT[:4] + [bid(0, 1, 3, price=3, owner=1)] + self.HOUSE_IN_DEBT[4:]
        self.assertEqual(last(house + [(MONEY, 1)]), [0, -20, -29])

    def test_a_balance_above_0_and_free_below_0(self):
        house = two_zones(10, 10) + [obligation(0, 1, 6, owner=1), (PAYIN, 1, 40), bid(0, 1, 40, price=1, owner=1)]
        house += [settle([5, 0], [-10])]
        self.assertEqual(last(house + [(MONEY, 1)]), [0, 10, -30])
        self.assertEqual(last(house + [(GRANT, 1, 0, 1, OPTION, 1, 0)]), [-6])
        self.assertEqual(last(house + [(GRANT, 1, 0, 1, OPTION, 1, -1)]), [-6])

    def test_grant_and_bid_are_refused_at_each_price(self):
        for price in (-MILLION, -1, 0, 1):
            self.assertEqual(last(self.HOUSE_IN_DEBT + [option(0, 1, 1, owner=1, price=price)]), [-6])
            self.assertEqual(last(self.HOUSE_IN_DEBT + [bid(0, 1, 1, owner=1, price=price)]), [-6])

    def test_pass_at_a_price_of_0_is_not_refused(self):
        self.assertEqual(last(self.HOUSE_IN_DEBT + [(PASS, 2, 1, 1, 0)]), [0, 2])
        self.assertEqual(last(self.HOUSE_IN_DEBT + [(PASS, 1, 2, 6, 0)]), [0, 1])

    def test_pass_where_the_one_in_debt_would_pay(self):
        self.assertEqual(last(self.HOUSE_IN_DEBT + [(PASS, 2, 1, 1, 1)]), [-6])
        self.assertEqual(last(self.HOUSE_IN_DEBT + [(PASS, 1, 2, 6, -1)]), [-6])

    def test_pass_where_the_one_in_debt_is_paid(self):
        sold = self.HOUSE_IN_DEBT + [(PASS, 1, 2, 6, 2)]
        self.assertEqual(run(sold + [(MONEY, 1), (MONEY, 2)])[-3:], [[0, 1], [0, -8, -8], [0, 87, 87]])
        taken = self.HOUSE_IN_DEBT + [(PASS, 2, 1, 1, -30)]
        self.assertEqual(run(taken + [(MONEY, 1), (MONEY, 2)])[-3:], [[0, 2], [0, 10, 10], [0, 69, 69]])

    def test_payin(self):
        told = run(self.HOUSE_IN_DEBT + [(PAYIN, 1, -1), (PAYIN, 1, 0), (PAYIN, 1, 19), (PAYIN, 1, 2), (PAYIN, 1, -1)])
        self.assertEqual(told[-5:], [[-6], [0, -20], [0, -1], [0, 1], [0, 0]])

    def test_a_settle_takes_more_still(self):
        self.assertEqual(last(self.HOUSE_IN_DEBT + [settle([5, 0], [-10]), (MONEY, 1)]), [0, -50, -50])


class Payout(unittest.TestCase):
    def test_payouts_and_earnings(self):
        self.assertEqual(last(RING + [payout([5, 9, 7])]), [0, 26, 58])
        self.assertEqual(last(RING + [payout([9, 5, 7])]), [0, -24 + 8 + 6, 16 + 14 + 10])

    def test_payouts_below_0(self):
        self.assertEqual(last(two_zones(10, 4) + [obligation(0, 1, 6), payout([3, 1])]), [0, -12, 8])

    def test_options_worth_0(self):
        self.assertEqual(last(two_zones(10, 4) + [option(0, 1, 6), payout([3, 1])]), [0, 0, 8])
        self.assertEqual(last(two_zones(10, 4) + [option(0, 1, 6), payout([1, 3])]), [0, 12, 20])
        self.assertEqual(last(two_zones(10, 4) + [option(0, 1, 6), payout([3, 3])]), [0, 0, 0])

    def test_prices_below_0(self):
        self.assertEqual(last(two_zones(10, 4) + [obligation(0, 1, 6), payout([-5, -2])]), [0, 18, 30])
        self.assertEqual(last(two_zones(10, 4) + [obligation(0, 1, 6), payout([-2, -5])]), [0, -18, 12])
        self.assertEqual(last(two_zones(10, 4) + [option(0, 1, 6), payout([-5, 2])]), [0, 42, 70])

    def test_without_lines_and_rights(self):
        self.assertEqual(last([(OPEN, 2), payout([1, 2])]), [0, 0, 0])
        self.assertEqual(last([(OPEN, 6), payout([1, 2, 3, 4, 5, 6])]), [0, 0, 0])

    def test_the_greatest_prices(self):
        house = [(OPEN, 2)] + [(LINE, 0, 1, BILLION, 1)] * 10 + [obligation(0, 1, BILLION)] * 10
        self.assertEqual(last(house + [payout([-MILLION, MILLION])]), [0, 2 * 10 ** 16, 2 * 10 ** 16])
        self.assertEqual(last(house + [payout([MILLION, -MILLION])]), [0, -2 * 10 ** 16, 2 * 10 ** 7])

    def test_rows_that_have_not_one_number_for_each_zone(self):
        for row in ([], [1], [1, 2], [1, 2, 3, 4], [1] * 64):
            self.assertEqual(last(RING + [payout(row)]), [-4])

    def test_it_changes_nothing(self):
        self.assertEqual(told_of(RING + [payout([5, 9, 7])]), told_of(RING))


class Value(unittest.TestCase):
    def test_obligations_and_options(self):
        """Prices 5, 9, 7."""
        for right, worth in ((1, 24), (2, 0), (3, -6), (4, 4), (5, 4)):
            self.assertEqual(last(RING + [value(right, [5, 9, 7])]), [0, worth])
        for right, worth in ((1, -24), (2, 8), (3, 6), (4, 0), (5, 0)):
            self.assertEqual(last(RING + [value(right, [9, 5, 7])]), [0, worth])

    def test_equal_prices(self):
        for right in range(1, 6):
            self.assertEqual(last(RING + [value(right, [4, 4, 4])]), [0, 0])

    def test_the_greatest_prices(self):
        for kind, worth in ((OBLIGATION, -2 * 10 ** 15), (OPTION, 0)):
            house = [(OPEN, 2), (LINE, 0, 1, BILLION, 0), (GRANT, 0, 0, 1, kind, BILLION, 0)]
            self.assertEqual(last(house + [value(1, [-MILLION, MILLION])]), [0, 2 * 10 ** 15])
            self.assertEqual(last(house + [value(1, [MILLION, -MILLION])]), [0, worth])

    def test_no_such_right(self):
        self.assertEqual(last(RING + [value(6, [5, 9, 7])]), [-3])
        self.assertEqual(last(RING + [(BACK, 2, 4), value(2, [5, 9, 7])]), [-3])
        self.assertEqual(last(two_zones(1) + [bid(0, 1, 1), value(1, [5, 9])]), [-3])

    def test_rows_that_have_not_one_number_for_each_zone(self):
        for row in ([], [1], [1, 2], [1, 2, 3, 4], [1] * 64):
            self.assertEqual(last(RING + [value(1, row)]), [-4])

    def test_order_of_refusals(self):
        self.assertEqual(last(RING + [value(6, [5, 9])]), [-3])
        self.assertEqual(last(RING + [value(6, [])]), [-3])

    def test_it_changes_nothing(self):
        self.assertEqual(told_of(RING + [value(1, [5, 9, 7])]), told_of(RING))


if __name__ == "__main__":
    unittest.main()
