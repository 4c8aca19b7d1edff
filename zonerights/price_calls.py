"""The calls with prices: settle, payout, value."""

from zonerights.prices import earnings, flows_fit, payouts, rent, worth
from zonerights.records import find_numbered
from zonerights.refusals import NOT_FITTING, NOT_FITTING_FLOWS, NOT_THERE


def settle(house, prices, flows):
    if len(prices) != house.zones or len(flows) != len(house.lines):
        return [NOT_FITTING]
    if not flows_fit(house.lines, flows, prices):
        return [NOT_FITTING_FLOWS]
    taken = rent(house.lines, flows, prices)
    paid = payouts(house.rights, prices)
    for right in house.rights:
        house.pay(right.owner, worth(right, prices))
    house.till = house.till + taken - paid
    house.cash = house.cash - taken
    return [0, taken, paid]


def tell_payout(house, prices):
    if len(prices) != house.zones:
        return [NOT_FITTING]
    return [0, payouts(house.rights, prices), earnings(house.lines, prices)]


def tell_value(house, numbers, prices):
    right = find_numbered(house.rights, numbers["right"])
    if right is None:
        return [NOT_THERE]
    if len(prices) != house.zones:
        return [NOT_FITTING]
    return [0, worth(right, prices)]
