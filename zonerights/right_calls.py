"""The calls between the house and an owner: grant, most, back, keep."""

from zonerights.groups import is_safe, most_between, slack_list
from zonerights.records import MOST_RIGHTS, OPTION, Right, cost_at, find_numbered, with_amount
from zonerights.refusals import FULL, NOT_FITTING, NOT_SAFE, NOT_THERE, TOO_DEAR


def grant(house, numbers):
    owner = numbers["owner"]
    source = numbers["source"]
    sink = numbers["sink"]
    amount = numbers["amount"]
    price = numbers["price"]
    if not house.has_way(source, sink):
        return [NOT_THERE]
    if len(house.rights) == MOST_RIGHTS:
        return [FULL]
    if house.free(owner) < cost_at(price, amount):
        return [TOO_DEAR]
    right = Right(house.next_number, owner, source, sink, numbers["kind"], amount)
    if not is_safe(house.zones, house.lines, house.rights + [right]):
        return [NOT_SAFE]
    house.sell(right, price)
    return [0, right.number]


def tell_most(house, numbers):
    source = numbers["source"]
    sink = numbers["sink"]
    if not house.has_way(source, sink):
        return [NOT_THERE]
    slacks = slack_list(house.zones, house.lines, house.rights)
    return [0, most_between(slacks, source, sink)]


def give_back(house, numbers):
    right = find_numbered(house.rights, numbers["right"])
    if right is None:
        return [NOT_THERE]
    if right.amount < numbers["amount"]:
        return [NOT_FITTING]
    left = right.amount - numbers["amount"]
    rights = with_amount(house.rights, right.number, left)
    if not is_safe(house.zones, house.lines, rights):
        return [NOT_SAFE]
    house.rights = rights
    return [0, left]


def tell_keep(house, numbers):
    right = find_numbered(house.rights, numbers["right"])
    if right is None:
        return [NOT_THERE]
    # An option takes no room the other way round, so nothing can lean on it.
    if right.kind == OPTION:
        return [0, 0]
    # To give an obligation back uses up the same slack as a right the other way round.
    slacks = slack_list(house.zones, house.lines, house.rights)
    return [0, max(0, right.amount - most_between(slacks, right.sink, right.source))]
