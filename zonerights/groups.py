"""Groups of zones: what is promised into them, the room into them, their slack.

A group is a whole number: the sum of the weights of its zones.
"""

from zonerights.records import MOST_AMOUNT, OBLIGATION

WEIGHTS = (1, 2, 4, 8, 16, 32)

# How many groups there are, by how many zones there are.
GROUP_COUNTS = (1, 2, 4, 8, 16, 32, 64)


def holds(group, zone):
    return group // WEIGHTS[zone] % 2 == 1


def enters(group, start, end):
    return holds(group, end) and not holds(group, start)


def promised_by(right, group):
    if enters(group, right.source, right.sink):
        return right.amount
    if right.kind == OBLIGATION and enters(group, right.sink, right.source):
        return 0 - right.amount
    return 0


def room_of(line, group):
    if enters(group, line.first, line.second):
        return line.forth
    if enters(group, line.second, line.first):
        return line.back
    return 0


def promised_into(rights, group):
    return sum([promised_by(right, group) for right in rights])


def room_into(lines, group):
    return sum([room_of(line, group) for line in lines])


# A group's slack lies at the place that is the group's own number.
def slack_list(zones, lines, rights):
    return [room_into(lines, group) - promised_into(rights, group) for group in range(GROUP_COUNTS[zones])]


def is_safe(zones, lines, rights):
    return min(slack_list(zones, lines, rights)) >= 0


def most_between(slacks, source, sink):
    entered = [slack for group, slack in enumerate(slacks) if enters(group, source, sink)]
    return min(min(entered), MOST_AMOUNT)


def slacks_without(slacks, right):
    return [slack + promised_by(right, group) for group, slack in enumerate(slacks)]


def slacks_with(slacks, right):
    return [slack - promised_by(right, group) for group, slack in enumerate(slacks)]
