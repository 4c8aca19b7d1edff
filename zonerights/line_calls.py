"""The calls on lines: line, rooms, outage."""

from zonerights.groups import is_safe, most_between, slack_list, slacks_with, slacks_without
from zonerights.layout import counted
from zonerights.records import MOST_LINES, OBLIGATION, Line, find_numbered, with_amount, with_rooms
from zonerights.refusals import FULL, NOT_SAFE, NOT_THERE


def add_line(house, numbers):
    a = numbers["a"]
    b = numbers["b"]
    if not house.has_way(a, b):
        return [NOT_THERE]
    if len(house.lines) == MOST_LINES:
        return [FULL]
    house.lines.append(Line(a, b, numbers["forth"], numbers["back"]))
    return [0, len(house.lines) - 1]


def change_rooms(house, numbers):
    if numbers["line"] >= len(house.lines):
        return [NOT_THERE]
    lines = with_rooms(house.lines, numbers["line"], numbers["forth"], numbers["back"])
    if not is_safe(house.zones, lines, house.rights):
        return [NOT_SAFE]
    house.lines = lines
    return [0]


def outage(house, numbers):
    if numbers["line"] >= len(house.lines):
        return [NOT_THERE]
    lines = with_rooms(house.lines, numbers["line"], numbers["forth"], numbers["back"])
    rights = cut_options(house.zones, lines, house.rights)
    if not is_safe(house.zones, lines, rights):
        return [NOT_SAFE]
    row = row_of_cuts(house.rights, rights)
    house.lines = lines
    house.rights = rights
    return [0] + counted(row)


def cut_options(zones, lines, rights):
    # The slacks are carried along: reckoning them anew at each right is slow where there are many.
    slacks = slack_list(zones, lines, rights)
    kept = rights
    for right in reversed(rights):
        if min(slacks) < 0 and right.kind != OBLIGATION:
            slacks = slacks_without(slacks, right)
            left = min(right.amount, max(0, most_between(slacks, right.source, right.sink)))
            kept = with_amount(kept, right.number, left)
            if left > 0:
                slacks = slacks_with(slacks, find_numbered(kept, right.number))
    return kept


def row_of_cuts(before, behind):
    row = []
    for right in before:
        now = find_numbered(behind, right.number)
        left = 0 if now is None else now.amount
        if left < right.amount:
            row.extend([right.number, left])
    return row
