"""The calls on money: money, payin, house."""

from zonerights.refusals import TOO_DEAR


def tell_money(house, numbers):
    owner = numbers["owner"]
    return [0, house.balances[owner], house.free(owner)]


def pay_in(house, numbers):
    owner = numbers["owner"]
    amount = numbers["payin"]
    # Who pays in may have less than nothing free, who takes out may not.
    if amount < 0 and house.free(owner) < 0 - amount:
        return [TOO_DEAR]
    house.pay(owner, amount)
    house.cash = house.cash - amount
    return [0, house.balances[owner]]


def tell_accounts(house):
    return [0, house.till, house.sales, house.cash]
