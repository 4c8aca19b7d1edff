"""bid, unbid, award (points 13 to 15)."""

import unittest

from tests.helper import (
    AWARD, BACK, BID, BILLION, GRANT, HOUSE, LINE, MONEY, OBLIGATION, OPEN, OPTION, PAYIN, ROOMS, STATE, UNBID,
    bid, last, obligation, option, run, settle, thirty_rights, told_of, two_zones, wide,
)


def bids_of(calls):
    """The row of bids that state tells."""
    told = last(calls + [(STATE,)])
    spot = 4
    for row in range(2):
        spot += 1 + told[spot]
    row = told[spot + 1:]
    assert len(row) == told[spot]
    return [tuple(row[k:k + 7]) for k in range(0, len(row), 7)]


def rights_of(calls):
    """The row of rights that state tells."""
    told = last(calls + [(STATE,)])
    spot = 5 + told[4]
    row = told[spot + 1:spot + 1 + told[spot]]
    return [tuple(row[k:k + 6]) for k in range(0, len(row), 6)]


def in_debt(owner=0):
    """A house in which the owner has 5 less than nothing."""
    return two_zones(9, 9) + [obligation(0, 1, 5, owner=owner), settle([1, 0], [-9]), (BACK, 1, 5)]


class Bid(unittest.TestCase):
    def test_there_is_a_new_bid(self):
        told = run(two_zones(9) + [(PAYIN, 2, 100), bid(0, 1, 5, price=3, owner=2, kind=OPTION), (STATE,)])
        self.assertEqual(told[-2:], [[0, 1], [0, 2, 1, 2, 4, 0, 1, 9, 0, 0, 7, 1, 2, 0, 1, OPTION, 5, 3]])

    def test_numbers_of_their_own(self):
        told = run(two_zones(9) + [option(0, 1, 1), option(0, 1, 1), bid(0, 1, 1), bid(0, 1, 1), option(0, 1, 1)])
        self.assertEqual(told[-3:], [[0, 1], [0, 2], [0, 3]])

    def test_a_number_is_never_given_again(self):
        told = run(two_zones(9) + [bid(0, 1, 1), bid(0, 1, 1), (UNBID, 2), bid(0, 1, 1), (UNBID, 1), (UNBID, 3),
                                   bid(0, 1, 1), (AWARD,), bid(0, 1, 1)])
        self.assertEqual(told[2:], [[0, 1], [0, 2], [0], [0, 3], [0], [0], [0, 4], [0, 1, 3, 4, 1, 1], [0, 5]])

    def test_a_refused_bid_takes_no_number(self):
        self.assertEqual(run(two_zones(9) + [bid(0, 0, 1), bid(0, 1, 1, price=1), bid(0, 1, 1)])[-3:],
                         [[-3], [-6], [0, 1]])

    def test_nothing_is_paid_but_it_is_held(self):
        house = two_zones(9) + [(PAYIN, 2, 100), bid(0, 1, 5, price=3, owner=2)]
        self.assertEqual(last(house + [(MONEY, 2)]), [0, 100, 85])
        self.assertEqual(last(house + [(HOUSE,)]), [0, 0, 0, -100])
        house += [bid(1, 0, 2, price=10, owner=2)]
        self.assertEqual(last(house + [(MONEY, 2)]), [0, 100, 65])

    def test_nothing_is_held_at_prices_of_0_and_below(self):
        house = two_zones(9) + [bid(0, 1, 5, price=0), bid(0, 1, 5, price=-7), bid(0, 1, BILLION, price=-10 ** 6)]
        self.assertEqual(run(house + [(MONEY, 0)])[-4:], [[0, 1], [0, 2], [0, 3], [0, 0, 0]])

    def test_no_room_is_needed(self):
        self.assertEqual(last([(OPEN, 2), bid(0, 1, BILLION)]), [0, 1])

    def test_thirty_rights_are_no_hindrance(self):
        self.assertEqual(last(two_zones(99) + thirty_rights() + [bid(0, 1, 1)]), [0, 1])

    def test_full_behind_ten(self):
        ten = two_zones(9) + [bid(0, 1, 1)] * 10
        self.assertEqual(run(ten + [bid(0, 1, 1)])[-2:], [[0, 10], [-5]])
        self.assertEqual(last(ten + [(UNBID, 4), bid(0, 1, 1)]), [0, 11])
        self.assertEqual(last(ten + [(UNBID, 4), bid(0, 1, 1), bid(0, 1, 1)]), [-5])
        self.assertEqual(last(ten + [bid(0, 1, 1, owner=7)]), [-5])

    def test_ten_bids_are_told(self):
        house = two_zones(9) + [bid(0, 1, k + 1, price=-k, owner=k % 8, kind=k % 2) for k in range(10)]
        self.assertEqual(bids_of(house), [(k + 1, k % 8, 0, 1, k % 2, k + 1, -k) for k in range(10)])

    def test_all_that_is_free_and_one_more(self):
        rich = two_zones(9) + [(PAYIN, 3, 12)]
        self.assertEqual(last(rich + [bid(0, 1, 4, price=3, owner=3)]), [0, 1])
        self.assertEqual(last(rich + [bid(0, 1, 1, price=13, owner=3)]), [-6])
        self.assertEqual(last(rich + [bid(0, 1, 1, price=1, owner=2)]), [-6])

    def test_held_for_other_bids(self):
        rich = two_zones(9) + [(PAYIN, 3, 12), bid(0, 1, 2, price=4, owner=3)]
        self.assertEqual(last(rich + [bid(1, 0, 5, price=1, owner=3)]), [-6])
        self.assertEqual(last(rich + [bid(1, 0, 4, price=1, owner=3)]), [0, 2])
        self.assertEqual(last(rich + [bid(1, 0, 4, price=1, owner=3), bid(1, 0, 1, price=1, owner=3)]), [-6])
        self.assertEqual(last(rich + [(UNBID, 1), bid(1, 0, 12, price=1, owner=3)]), [0, 2])

    def test_another_owner_s_bids_do_not_matter(self):
        rich = two_zones(9) + [(PAYIN, 3, 12), (PAYIN, 4, 12), bid(0, 1, 12, price=1, owner=4)]
        self.assertEqual(last(rich + [bid(0, 1, 12, price=1, owner=3)]), [0, 2])

    def test_free_below_0_refuses_each_bid(self):
        for price in (-10 ** 6, -1, 0, 1):
            self.assertEqual(last(in_debt() + [bid(0, 1, 1, price=price)]), [-6])
            self.assertEqual(last(in_debt() + [(PAYIN, 0, 4), bid(0, 1, 1, price=price)]), [-6])
        self.assertEqual(last(in_debt() + [(PAYIN, 0, 5), bid(0, 1, 1, price=-1)]), [0, 1])
        self.assertEqual(last(in_debt() + [(PAYIN, 0, 5), bid(0, 1, 1, price=0)]), [0, 1])

    def test_the_greatest_bid(self):
        rich = two_zones(9) + [(PAYIN, 0, 10 ** 15), bid(0, 1, BILLION, price=10 ** 6)]
        self.assertEqual(run(rich + [(MONEY, 0)])[-2:], [[0, 1], [0, 10 ** 15, 0]])

    def test_zones_that_are_not_there_or_one(self):
        for source, sink in ((0, 2), (2, 0), (5, 1), (0, 0), (1, 1), (5, 5)):
            self.assertEqual(last(two_zones(9) + [bid(source, sink, 1)]), [-3])

    def test_order_of_refusals(self):
        ten = two_zones(9) + [bid(0, 1, 1)] * 10
        self.assertEqual(last(ten + [bid(0, 2, 1)]), [-3])
        self.assertEqual(last(ten + [bid(1, 1, 1, price=5)]), [-3])
        self.assertEqual(last(ten + [bid(0, 1, 1, price=5)]), [-5])
        self.assertEqual(last(two_zones(9) + [bid(0, 2, 1, price=5)]), [-3])


class Unbid(unittest.TestCase):
    def test_the_bid_is_gone(self):
        house = two_zones(9) + [bid(0, 1, 2), bid(0, 1, 3), bid(0, 1, 4), (UNBID, 2)]
        self.assertEqual(last(house), [0])
        self.assertEqual([part[0] for part in bids_of(house)], [1, 3])
        self.assertEqual(last(house + [(UNBID, 2)]), [-3])
        self.assertEqual(last(house + [(AWARD,)]), [0, 1, 6, 1, 1, 2, 3, 2, 4])

    def test_nothing_is_held_for_it(self):
        house = two_zones(9) + [(PAYIN, 1, 50), bid(0, 1, 2, price=10, owner=1), bid(0, 1, 3, price=5, owner=1)]
        self.assertEqual(run(house + [(MONEY, 1), (UNBID, 1), (MONEY, 1), (UNBID, 2), (MONEY, 1)])[-5:],
                         [[0, 50, 15], [0], [0, 50, 35], [0], [0, 50, 50]])

    def test_no_such_bid(self):
        self.assertEqual(last(two_zones(9) + [(UNBID, 1)]), [-3])
        self.assertEqual(last(two_zones(9) + [option(0, 1, 1), (UNBID, 1)]), [-3])
        self.assertEqual(last(two_zones(9) + [bid(0, 1, 1), (UNBID, 2)]), [-3])
        self.assertEqual(last(two_zones(9) + [bid(0, 1, 1), (UNBID, BILLION)]), [-3])
        self.assertEqual(last(two_zones(9) + [bid(0, 1, 1), (AWARD,), (UNBID, 1)]), [-3])

    def test_what_is_left_of_a_bid(self):
        house = two_zones(9) + [(PAYIN, 0, 20), bid(0, 1, 20, price=1), (AWARD,)]
        self.assertEqual(run(house + [(UNBID, 1), (MONEY, 0), (AWARD,)])[-3:], [[0], [0, 11, 11], [0, 1, 0]])
        self.assertEqual(rights_of(house + [(UNBID, 1)]), [(1, 0, 0, 1, OBLIGATION, 9)])


class Award(unittest.TestCase):
    def test_no_bids(self):
        self.assertEqual(last(two_zones(9) + [(AWARD,)]), [0, 1, 0])
        self.assertEqual(last([(OPEN, 2), (AWARD,)]), [0, 1, 0])

    def test_a_whole_bid(self):
        for kind in (OBLIGATION, OPTION):
            house = two_zones(9) + [option(0, 1, 1), (PAYIN, 3, 50), bid(0, 1, 5, price=4, owner=3, kind=kind)]
            house += [(AWARD,)]
            self.assertEqual(last(house), [0, 1, 3, 1, 2, 5])
            self.assertEqual(rights_of(house)[1:], [(2, 3, 0, 1, kind, 5)])
            self.assertEqual(bids_of(house), [])
            self.assertEqual(run(house + [(MONEY, 3), (HOUSE,)])[-2:], [[0, 30, 30], [0, 0, 20, -50]])
            self.assertEqual(last(house + [option(0, 1, 1)]), [0, 3])

    def test_a_part_of_a_bid_and_then_the_rest(self):
        house = two_zones(3) + [(PAYIN, 3, 50), bid(0, 1, 5, price=4, owner=3, kind=OPTION), (AWARD,)]
        self.assertEqual(last(house), [0, 1, 3, 1, 1, 3])
        self.assertEqual(bids_of(house), [(1, 3, 0, 1, OPTION, 2, 4)])
        self.assertEqual(run(house + [(MONEY, 3), (HOUSE,)])[-2:], [[0, 38, 30], [0, 0, 12, -50]])
        self.assertEqual(last(house + [(AWARD,)]), [0, 1, 0])
        house += [(ROOMS, 0, 9, 0), (AWARD,)]
        self.assertEqual(last(house), [0, 1, 3, 1, 2, 2])
        self.assertEqual(bids_of(house), [])
        self.assertEqual(rights_of(house), [(1, 3, 0, 1, OPTION, 3), (2, 3, 0, 1, OPTION, 2)])
        self.assertEqual(last(house + [(MONEY, 3)]), [0, 30, 30])

    def test_just_the_most(self):
        house = two_zones(5) + [bid(0, 1, 5), (AWARD,)]
        self.assertEqual(last(house), [0, 1, 3, 1, 1, 5])
        self.assertEqual(bids_of(house), [])

    def test_from_the_highest_price_to_the_lowest(self):
        house = two_zones(6) + [(PAYIN, 0, 99), bid(0, 1, 2, price=-1), bid(0, 1, 2, price=5), bid(0, 1, 2, price=0),
                                bid(0, 1, 2, price=6), (AWARD,)]
        self.assertEqual(last(house), [0, 1, 9, 4, 1, 2, 2, 2, 2, 3, 3, 2])
        self.assertEqual(bids_of(house), [(1, 0, 0, 1, OBLIGATION, 2, -1)])

    def test_of_equal_prices_from_the_least_number(self):
        for price in (-2, 0, 2):
            house = two_zones(5) + [(PAYIN, 1, 99), (PAYIN, 2, 99)]
            house += [bid(0, 1, 2, price=price, owner=2), bid(0, 1, 2, price=price, owner=1, kind=OPTION),
                      bid(0, 1, 2, price=price, owner=2), (AWARD,)]
            self.assertEqual(last(house), [0, 1, 9, 1, 1, 2, 2, 2, 2, 3, 3, 1])

    def test_the_price_counts_ahead_of_the_number_and_the_amount(self):
        house = two_zones(5) + [(PAYIN, 1, 99), bid(0, 1, 9, price=2, owner=1), bid(0, 1, 1, price=3, owner=1), (AWARD,)]
        self.assertEqual(last(house), [0, 1, 6, 2, 1, 1, 1, 2, 4])

    def test_at_prices_below_0_the_house_pays(self):
        house = two_zones(9) + [bid(0, 1, 4, price=-5, owner=6), (MONEY, 6), (AWARD,), (MONEY, 6), (HOUSE,)]
        self.assertEqual(run(house)[-4:], [[0, 0, 0], [0, 1, 3, 1, 1, 4], [0, 20, 20], [0, 0, -20, 0]])

    def test_a_bid_that_gets_nothing_while_a_later_one_does(self):
        house = two_zones(0, 9) + [(PAYIN, 0, 99), bid(0, 1, 4, price=9, kind=OPTION),
                                   bid(1, 0, 4, price=1, kind=OPTION), (AWARD,)]
        self.assertEqual(last(house), [0, 1, 3, 2, 1, 4])
        self.assertEqual(bids_of(house), [(1, 0, 0, 1, OPTION, 4, 9)])
        self.assertEqual(last(house + [(MONEY, 0)]), [0, 95, 59])

    def test_a_bid_passed_over_gets_a_right_behind_another_one_s(self):
        """The obligation from 1 to 0 makes the room that the dearer bid wants."""
        house = two_zones(0, 9) + [(PAYIN, 0, 99), bid(0, 1, 4, price=9), bid(1, 0, 3, price=1), (AWARD,)]
        self.assertEqual(last(house), [0, 1, 6, 2, 1, 3, 1, 2, 3])
        self.assertEqual(bids_of(house), [(1, 0, 0, 1, OBLIGATION, 1, 9)])

    def test_behind_each_right_the_bids_are_gone_through_anew(self):
        house = two_zones(3) + [(PAYIN, 0, 99), bid(0, 1, 5, price=2), bid(1, 0, 10, price=1), (AWARD,)]
        self.assertEqual(last(house), [0, 1, 12, 1, 1, 3, 2, 2, 3, 1, 3, 2, 2, 4, 2])
        self.assertEqual(bids_of(house), [(2, 0, 1, 0, OBLIGATION, 5, 1)])
        self.assertEqual(rights_of(house), [(1, 0, 0, 1, 0, 3), (2, 0, 1, 0, 0, 3), (3, 0, 0, 1, 0, 2),
                                            (4, 0, 1, 0, 0, 2)])
        self.assertEqual(run(house + [(MONEY, 0), (HOUSE,)])[-2:], [[0, 84, 79], [0, 0, 15, -99]])

    def test_the_most_of_its_own_way_counts(self):
        house = [(OPEN, 3), (LINE, 0, 1, 5, 0), (LINE, 1, 2, 3, 0), (PAYIN, 0, 99),
                 bid(0, 2, 9, price=3, kind=OPTION), bid(0, 1, 9, price=2, kind=OPTION),
                 bid(1, 2, 9, price=1, kind=OPTION), (AWARD,)]
        self.assertEqual(last(house), [0, 1, 6, 1, 1, 3, 2, 2, 2])

    def test_what_is_awarded_is_safe(self):
        house = wide(3)[:1] + [(LINE, 0, 1, 4, 1), (LINE, 1, 2, 2, 6), (LINE, 0, 2, 1, 1)]
        house += [bid(0, 2, 9), bid(2, 1, 9, kind=OPTION), bid(1, 0, 9), bid(0, 1, 9, kind=OPTION), (AWARD,)]
        told = run(house + [(ROOMS, 0, 4, 1), (ROOMS, 1, 2, 6), (ROOMS, 2, 1, 1)])
        self.assertEqual(told[-3:], [[0], [0], [0]])

    def test_thirty_rights(self):
        house = two_zones(99) + thirty_rights() + [bid(0, 1, 1), (AWARD,)]
        self.assertEqual(last(house), [0, 1, 0])
        self.assertEqual(bids_of(house), [(1, 0, 0, 1, OBLIGATION, 1, 0)])
        self.assertEqual(last(house + [(BACK, 3, 2), (AWARD,)]), [0, 1, 3, 1, 31, 1])

    def test_stops_at_thirty_rights(self):
        house = two_zones(99) + thirty_rights()[:28] + [bid(0, 1, 1), bid(0, 1, 2), bid(0, 1, 3), (AWARD,)]
        self.assertEqual(last(house), [0, 1, 6, 1, 29, 1, 2, 30, 2])
        self.assertEqual(bids_of(house), [(3, 0, 0, 1, OBLIGATION, 3, 0)])

    def test_twenty_nine_rights_and_nothing_more_to_get(self):
        house = two_zones(99) + thirty_rights()[:28] + [bid(0, 1, 1), (AWARD,)]
        self.assertEqual(last(house), [0, 1, 3, 1, 29, 1])

    def test_the_greatest_amounts(self):
        house = [(OPEN, 2), (LINE, 0, 1, BILLION, 0), (LINE, 0, 1, BILLION, 0), (PAYIN, 0, 10 ** 15),
                 (PAYIN, 1, 10 ** 15), bid(0, 1, BILLION, price=10 ** 6), bid(0, 1, BILLION, price=10 ** 6, owner=1),
                 (AWARD,), (HOUSE,), (MONEY, 0), (MONEY, 1)]
        self.assertEqual(run(house)[-4:], [[0, 1, 6, 1, 1, BILLION, 2, 2, BILLION], [0, 0, 2 * 10 ** 15, -2 * 10 ** 15],
                                           [0, 0, 0], [0, 0, 0]])

    def test_free_is_not_asked_for(self):
        """The owner has less than nothing behind a settle; the bid is awarded and paid all the same."""
        house = two_zones(9, 9) + [obligation(0, 1, 5), (PAYIN, 0, 6), bid(0, 1, 2, price=3), settle([2, 0], [-9])]
        self.assertEqual(last(house + [(MONEY, 0)]), [0, -4, -10])
        told = run(house + [(AWARD,), (MONEY, 0), (HOUSE,)])
        self.assertEqual(told[-3:], [[0, 1, 3, 1, 2, 2], [0, -10, -10], [0, 28, 6, -24]])

    def test_without_bids_it_changes_nothing(self):
        self.assertEqual(told_of(two_zones(9) + [(AWARD,)]), told_of(two_zones(9)))


class SixteenTimes(unittest.TestCase):
    """Two obligations the other way round make room for one another, 1 at a time."""

    def to_and_fro(self, forth, back, before=0):
        return (two_zones(1) + [obligation(0, 1, 1), obligation(1, 0, 1)] * (before // 2)
                + [bid(0, 1, forth), bid(1, 0, back), (AWARD,)])

    def row(self, times, first=1):
        """Bid 1 and bid 2 in turn, 1 each."""
        return [3 * times] + [part for k in range(times) for part in (1 + k % 2, first + k, 1)]

    def test_more_could_be_done(self):
        house = self.to_and_fro(100, 100)
        self.assertEqual(last(house), [0, 0] + self.row(16))
        self.assertEqual(bids_of(house), [(1, 0, 0, 1, 0, 92, 0), (2, 0, 1, 0, 0, 92, 0)])
        self.assertEqual(len(rights_of(house)), 16)

    def test_a_second_award_goes_on_until_thirty(self):
        house = self.to_and_fro(100, 100) + [(AWARD,)]
        self.assertEqual(last(house), [0, 1] + self.row(14, 17))
        self.assertEqual(last(house + [(AWARD,)]), [0, 1, 0])

    def test_all_is_done_behind_just_sixteen(self):
        house = self.to_and_fro(8, 8)
        self.assertEqual(last(house), [0, 1] + self.row(16))
        self.assertEqual(bids_of(house), [])

    def test_one_more_would_be_left(self):
        house = self.to_and_fro(9, 8)
        self.assertEqual(last(house), [0, 0] + self.row(16))
        self.assertEqual(last(house + [(AWARD,)]), [0, 1] + self.row(1, 17))

    def test_fifteen(self):
        self.assertEqual(last(self.to_and_fro(8, 7)), [0, 1] + self.row(15))

    def test_a_bid_is_left_that_can_get_nothing(self):
        house = self.to_and_fro(8, 9)
        self.assertEqual(last(house), [0, 1] + self.row(16))
        self.assertEqual(bids_of(house), [(2, 0, 1, 0, 0, 1, 0)])

    def test_the_sixteenth_is_the_thirtieth_right(self):
        house = self.to_and_fro(100, 100, before=14)
        self.assertEqual(last(house), [0, 1] + self.row(16, 15))
        self.assertEqual(len(rights_of(house)), 30)

    def test_the_sixteenth_is_the_twenty_eighth_right(self):
        self.assertEqual(last(self.to_and_fro(100, 100, before=12)), [0, 0] + self.row(16, 13))

    def test_thirty_rights_ahead_of_sixteen_times(self):
        self.assertEqual(last(self.to_and_fro(100, 100, before=16)), [0, 1] + self.row(14, 17))


class BidsAreNotRights(unittest.TestCase):
    def test_bids_promise_nothing(self):
        told = run(two_zones(9) + [bid(0, 1, 9), (BID, 0, 1, 0, OPTION, 9, 0), (GRANT, 0, 0, 1, OPTION, 9, 0)])
        self.assertEqual(told[-1], [0, 1])


if __name__ == "__main__":
    unittest.main()
