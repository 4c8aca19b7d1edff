"""The calls that tell what is there: group, tight, rights, state."""

from zonerights.groups import WEIGHTS, holds, promised_into, room_into, slack_list
from zonerights.layout import counted
from zonerights.refusals import NOT_FITTING


def tell_group(house, marks):
    if len(marks) != house.zones:
        return [NOT_FITTING]
    group = sum([mark * weight for mark, weight in zip(marks, WEIGHTS)])
    return [0, promised_into(house.rights, group), room_into(house.lines, group)]


def tell_tight(house):
    slacks = slack_list(house.zones, house.lines, house.rights)
    # The first group holds no zone and the last one all: neither is looked at.
    looked_at = slacks[1:-1]
    least = min(looked_at)
    group = 1 + looked_at.index(least)
    marks = [1 if holds(group, zone) else 0 for zone in range(house.zones)]
    return [0, least] + counted(marks)


def tell_rights(house, numbers):
    row = []
    for right in house.rights:
        if right.owner == numbers["owner"]:
            row.extend([right.number, right.source, right.sink, right.kind, right.amount])
    return [0] + counted(row)


def tell_state(house):
    numbers = [house.zones, house.next_number, house.next_bid_number]
    rows = counted(row_of_lines(house)) + counted(row_of_rights(house)) + counted(row_of_bids(house))
    return [0] + numbers + rows


def row_of_lines(house):
    row = []
    for line in house.lines:
        row.extend([line.first, line.second, line.forth, line.back])
    return row


def row_of_rights(house):
    row = []
    for right in house.rights:
        row.extend([right.number, right.owner, right.source, right.sink, right.kind, right.amount])
    return row


def row_of_bids(house):
    row = []
    for bid in house.bids:
        row.extend([bid.number, bid.owner, bid.source, bid.sink, bid.kind, bid.left, bid.price])
    return row
