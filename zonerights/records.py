"""What a house is made of: lines, rights, bids, money."""

OBLIGATION = 0
OPTION = 1

MOST_LINES = 10
MOST_RIGHTS = 30
MOST_BIDS = 10
MOST_AMOUNT = 1000000000
OWNER_COUNT = 8


# Lines, rights and bids are never changed, others take their places: so what a call would leave can be looked at
# ahead of it, and a refused call has nothing to undo.
class Line:
    def __init__(self, first, second, forth, back):
        self.first = first
        self.second = second
        self.forth = forth
        self.back = back


class Right:
    def __init__(self, number, owner, source, sink, kind, amount):
        self.number = number
        self.owner = owner
        self.source = source
        self.sink = sink
        self.kind = kind
        self.amount = amount


class Bid:
    def __init__(self, number, owner, source, sink, kind, left, price):
        self.number = number
        self.owner = owner
        self.source = source
        self.sink = sink
        self.kind = kind
        self.left = left
        self.price = price


# Rights and bids lie in the order of their numbers: new ones come last, and whatever takes a place stays there.
class House:
    def __init__(self):
        # No open house has 0 zones, so this one is not open.
        self.begin(0)

    def begin(self, zones):
        self.zones = zones
        self.lines = []
        self.rights = []
        self.bids = []
        self.next_number = 1
        self.next_bid_number = 1
        self.balances = [0] * OWNER_COUNT
        self.till = 0
        self.sales = 0
        self.cash = 0

    def is_begun(self):
        return self.zones > 0

    def has_way(self, source, sink):
        return source < self.zones and sink < self.zones and source != sink

    def free(self, owner):
        return self.balances[owner] - sum([held_for(bid) for bid in self.bids if bid.owner == owner])

    def pay(self, owner, amount):
        self.balances[owner] = self.balances[owner] + amount

    def sell(self, right, price):
        cost = price * right.amount
        self.rights = self.rights + [right]
        self.next_number = right.number + 1
        self.pay(right.owner, 0 - cost)
        self.sales = self.sales + cost


# What an owner has to have for an amount at a price: who is paid needs nothing.
def cost_at(price, amount):
    return max(0, price) * amount


def held_for(bid):
    return cost_at(bid.price, bid.left)


# For rights and for bids.
def find_numbered(things, number):
    for thing in things:
        if thing.number == number:
            return thing
    return None


# A right is 1 or more, so with an amount of 0 it is gone.
def with_amount(rights, number, amount):
    changed = []
    for right in rights:
        if right.number != number:
            changed.append(right)
        elif amount > 0:
            changed.append(Right(number, right.owner, right.source, right.sink, right.kind, amount))
    return changed


# As for rights: with nothing left a bid is gone.
def with_left(bids, number, left):
    changed = []
    for bid in bids:
        if bid.number != number:
            changed.append(bid)
        elif left > 0:
            changed.append(Bid(number, bid.owner, bid.source, bid.sink, bid.kind, left, bid.price))
    return changed


def with_owner(rights, number, owner):
    changed = []
    for right in rights:
        if right.number != number:
            changed.append(right)
        else:
            changed.append(Right(number, owner, right.source, right.sink, right.kind, right.amount))
    return changed


def with_rooms(lines, number, forth, back):
    changed = list(lines)
    line = lines[number]
    changed[number] = Line(line.first, line.second, forth, back)
    return changed
