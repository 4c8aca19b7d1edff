"""The calls of owners with rights that are there: pass, join, chain, via, annul."""

from zonerights.groups import is_safe
from zonerights.records import MOST_AMOUNT, MOST_RIGHTS, OBLIGATION, Right, find_numbered, with_amount, with_owner
from zonerights.refusals import FULL, NOT_FITTING, NOT_SAFE, NOT_THERE, TOO_DEAR


def pass_on(house, numbers):
    right = find_numbered(house.rights, numbers["right"])
    buyer = numbers["buyer"]
    amount = numbers["amount"]
    cost = numbers["price"] * amount
    if right is None:
        return [NOT_THERE]
    if right.amount < amount or right.owner == buyer:
        return [NOT_FITTING]
    if right.amount > amount and len(house.rights) == MOST_RIGHTS:
        return [FULL]
    if not can_pay(house, buyer, right.owner, cost):
        return [TOO_DEAR]
    house.pay(buyer, 0 - cost)
    house.pay(right.owner, cost)
    return [0, hand_over(house, right, buyer, amount)]


def can_pay(house, buyer, owner, cost):
    if cost > 0:
        return cost <= house.free(buyer)
    if cost < 0:
        return 0 - cost <= house.free(owner)
    return True


def hand_over(house, right, buyer, amount):
    if right.amount == amount:
        house.rights = with_owner(house.rights, right.number, buyer)
        return right.number
    number = house.next_number
    rights = with_amount(house.rights, right.number, right.amount - amount)
    house.rights = rights + [Right(number, buyer, right.source, right.sink, right.kind, amount)]
    house.next_number = number + 1
    return number


def join_rights(house, numbers):
    right = find_numbered(house.rights, numbers["right"])
    other = find_numbered(house.rights, numbers["other"])
    if right is None or other is None:
        return [NOT_THERE]
    both = right.amount + other.amount
    if not are_two_of_one_owner_and_kind(right, other) or right.source != other.source or right.sink != other.sink:
        return [NOT_FITTING]
    if both > MOST_AMOUNT:
        return [NOT_FITTING]
    rights = with_amount(house.rights, other.number, 0)
    house.rights = with_amount(rights, right.number, both)
    return [0, both]


def are_two_of_one_owner_and_kind(right, other):
    return right.number != other.number and right.owner == other.owner and right.kind == other.kind


def have_both(right, other, amount):
    return right.amount >= amount and other.amount >= amount


def less_of_both(rights, right, other, amount):
    rest = with_amount(rights, right.number, right.amount - amount)
    return with_amount(rest, other.number, other.amount - amount)


def chain(house, numbers):
    right = find_numbered(house.rights, numbers["right"])
    other = find_numbered(house.rights, numbers["other"])
    amount = numbers["amount"]
    if right is None or other is None:
        return [NOT_THERE]
    if not are_two_of_one_owner_and_kind(right, other) or not have_both(right, other, amount):
        return [NOT_FITTING]
    if right.sink != other.source or other.sink == right.source:
        return [NOT_FITTING]
    rest = less_of_both(house.rights, right, other, amount)
    if len(rest) == MOST_RIGHTS:
        return [FULL]
    number = house.next_number
    house.rights = rest + [Right(number, right.owner, right.source, other.sink, right.kind, amount)]
    house.next_number = number + 1
    return [0, number]


def split_via(house, numbers):
    right = find_numbered(house.rights, numbers["right"])
    zone = numbers["zone"]
    if right is None:
        return [NOT_THERE]
    if zone >= house.zones or zone == right.source or zone == right.sink:
        return [NOT_FITTING]
    if len(house.rights) == MOST_RIGHTS:
        return [FULL]
    number = house.next_number
    here = Right(number, right.owner, right.source, zone, right.kind, right.amount)
    there = Right(number + 1, right.owner, zone, right.sink, right.kind, right.amount)
    rights = with_amount(house.rights, right.number, 0) + [here, there]
    if not is_safe(house.zones, house.lines, rights):
        return [NOT_SAFE]
    house.rights = rights
    house.next_number = number + 2
    return [0, number, number + 1]


def annul(house, numbers):
    right = find_numbered(house.rights, numbers["right"])
    other = find_numbered(house.rights, numbers["other"])
    amount = numbers["amount"]
    if right is None or other is None:
        return [NOT_THERE]
    if not are_two_of_one_owner_and_kind(right, other) or right.kind != OBLIGATION:
        return [NOT_FITTING]
    if right.source != other.sink or right.sink != other.source:
        return [NOT_FITTING]
    if not have_both(right, other, amount):
        return [NOT_FITTING]
    house.rights = less_of_both(house.rights, right, other, amount)
    return [0, right.amount - amount, other.amount - amount]
