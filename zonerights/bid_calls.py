"""The calls on bids: bid, unbid, award."""

from zonerights.groups import most_between, slack_list
from zonerights.layout import counted
from zonerights.records import MOST_BIDS, MOST_RIGHTS, Bid, Right, find_numbered, held_for, with_left
from zonerights.refusals import FULL, NOT_THERE, TOO_DEAR

MOST_TIMES = 16


def add_bid(house, numbers):
    bid = bid_of(house.next_bid_number, numbers)
    if not house.has_way(bid.source, bid.sink):
        return [NOT_THERE]
    if len(house.bids) == MOST_BIDS:
        return [FULL]
    if house.free(bid.owner) < held_for(bid):
        return [TOO_DEAR]
    house.bids = house.bids + [bid]
    house.next_bid_number = bid.number + 1
    return [0, bid.number]


def bid_of(number, told):
    return Bid(number, told["owner"], told["source"], told["sink"], told["kind"], told["amount"], told["price"])


def take_bid_away(house, numbers):
    if find_numbered(house.bids, numbers["bid"]) is None:
        return [NOT_THERE]
    house.bids = with_left(house.bids, numbers["bid"], 0)
    return [0]


def award(house):
    row = []
    times = 0
    bid = first_to_get(house)
    while bid is not None and times < MOST_TIMES:
        row.extend(award_to(house, bid))
        times = times + 1
        bid = first_to_get(house)
    ended = 1 if bid is None else 0
    return [0, ended] + counted(row)


# Each right that is made may change the most of all ways, so a bid passed over before may get a right later.
def first_to_get(house):
    if len(house.rights) == MOST_RIGHTS:
        return None
    slacks = slack_list(house.zones, house.lines, house.rights)
    for bid in sorted(house.bids, key=rank_of):
        if most_between(slacks, bid.source, bid.sink) > 0:
            return bid
    return None


def rank_of(bid):
    return (0 - bid.price, bid.number)


# The owner's free is not asked for: what has to be paid was held for the bid, so free is not less behind it.
def award_to(house, bid):
    slacks = slack_list(house.zones, house.lines, house.rights)
    amount = min(bid.left, most_between(slacks, bid.source, bid.sink))
    right = Right(house.next_number, bid.owner, bid.source, bid.sink, bid.kind, amount)
    house.sell(right, bid.price)
    house.bids = with_left(house.bids, bid.number, bid.left - amount)
    return [bid.number, right.number, amount]
