"""A second telling of the calls, slow and in other words, for the tests to hold the program against.

Safety is asked here of prices, not of groups: rights and lines are safe just if at all prices that are 0 or 1
the payouts are not above the earnings. What a call may give is found by trying, not by reckoning.
"""

import copy
import itertools

BILLION = 10 ** 9
KEYS = {
    0: "zones", 1: "zone zone room room", 2: "line room room", 3: "line room room",
    4: "owner zone zone kind amount price", 5: "zone zone", 6: "right amount", 7: "right",
    8: "right owner amount price", 9: "right right", 10: "right right amount", 11: "right zone",
    12: "right right amount", 13: "owner zone zone kind amount price", 14: "bid", 15: "", 16: "", 17: "", 18: "right",
    19: "", 20: "", 21: "owner", 22: "owner payin", 23: "", 24: "owner", 25: "",
}
ROWS = {16: "price flow", 17: "price", 18: "price", 19: "mark"}
BOUNDS = {
    "zones": (2, 6), "zone": (0, 5), "room": (0, BILLION), "line": (0, 9), "owner": (0, 7), "kind": (0, 1),
    "amount": (1, BILLION), "price": (-10 ** 6, 10 ** 6), "right": (1, BILLION),
    "bid": (1, BILLION), "payin": (-10 ** 15, 10 ** 15), "flow": (-BILLION, BILLION), "mark": (0, 1),
}


class Refused(Exception):
    pass


def refuse_if(condition, number):
    if condition:
        raise Refused(number)


def look_at(key, number):
    refuse_if(not BOUNDS[key][0] <= number <= BOUNDS[key][1], -1)


def take_apart(call):
    """A call's numbers and rows, each with its key."""
    place, *rest = call
    numbers = [(key, rest.pop(0)) for key in KEYS[place].split()]
    rows = []
    for key in ROWS.get(place, "").split():
        length = rest.pop(0)
        rows.append((key, rest[:length]))
        rest = rest[length:]
    assert not rest, "a call with more than is told for it"
    return numbers, rows


class Oracle:
    def __init__(self):
        self.zones = None

    def ask(self, call):
        place = call[0]
        numbers, rows = take_apart(call)
        kept = copy.deepcopy(self.__dict__)
        try:
            for key, number in numbers + [(key, number) for key, row in rows for number in row]:
                look_at(key, number)
            refuse_if(any(len(row) > 64 for key, row in rows), -1)
            refuse_if(place != 0 and self.zones is None, -2)
            handed = [number for key, number in numbers] + [row for key, row in rows]
            return [0] + (getattr(self, f"call{place}")(*handed) or [])
        except Refused as refused:
            self.__dict__ = kept
            return [refused.args[0]]

    # What the rights and lines come to at prices.

    def worth(self, right, prices):
        owner, source, sink, kind, amount = right
        worth = amount * (prices[sink] - prices[source])
        return max(worth, 0) if kind else worth

    def payouts(self, prices, rights=None):
        return sum(self.worth(right, prices) for right in (self.rights if rights is None else rights).values())

    def earnings(self, prices):
        return sum(max(prices[b] - prices[a], 0) * forth + max(prices[a] - prices[b], 0) * back
                   for a, b, forth, back in self.lines)

    def safe(self, rights=None):
        return all(self.payouts(prices, rights) <= self.earnings(prices)
                   for prices in itertools.product((0, 1), repeat=self.zones))

    def most(self, source, sink, rights):
        return min([BILLION] + [self.earnings(prices) - self.payouts(prices, rights)
                                for prices in itertools.product((0, 1), repeat=self.zones)
                                if prices[sink] > prices[source]])

    # Steps that several calls share.

    def way(self, source, sink):
        refuse_if(source >= self.zones or sink >= self.zones or source == sink, -3)

    def make(self, *right):
        number = self.coming
        self.rights[number] = list(right)
        self.coming += 1
        return number

    def shrink(self, number, amount):
        self.rights[number][4] -= amount
        left = self.rights[number][4]
        if left == 0:
            self.rights.pop(number)
        return left

    def there(self, *numbers):
        refuse_if(any(number not in self.rights for number in numbers), -3)

    def free(self, owner):
        held = [max(price, 0) * left for who, source, sink, kind, left, price in self.bids.values() if who == owner]
        return self.balances[owner] - sum(held)

    def one_for_each_zone(self, row):
        refuse_if(len(row) != self.zones, -4)

    def row(self, parts):
        flat = [number for part in parts for number in part]
        return [len(flat)] + flat

    # The calls.

    def call0(self, zones):
        self.zones, self.lines, self.rights, self.coming, self.balances = zones, [], {}, 1, [0] * 8
        self.bids, self.coming_bid, self.till, self.sales, self.cash = {}, 1, 0, 0, 0

    def call1(self, a, b, forth, back):
        self.way(a, b)
        refuse_if(len(self.lines) >= 10, -5)
        self.lines.append([a, b, forth, back])
        return [len(self.lines) - 1]

    def call2(self, line, forth, back):
        refuse_if(line >= len(self.lines), -3)
        self.lines[line][2:] = [forth, back]
        refuse_if(not self.safe(), -7)

    def call3(self, line, forth, back):
        refuse_if(line >= len(self.lines), -3)
        self.lines[line][2:] = [forth, back]
        cut = {}
        for number in sorted(self.rights, reverse=True):
            if self.safe() or not self.rights[number][3]:
                continue
            owner, source, sink, kind, amount = self.rights[number]
            others = {key: right for key, right in self.rights.items() if key != number}
            most = self.most(source, sink, others)
            if most <= 0:
                self.rights.pop(number)
                cut[number] = 0
            elif most < amount:
                self.rights[number][4] = most
                cut[number] = most
        refuse_if(not self.safe(), -7)
        return [2 * len(cut)] + [part for number in sorted(cut) for part in (number, cut[number])]

    def call4(self, owner, source, sink, kind, amount, price):
        self.way(source, sink)
        refuse_if(len(self.rights) >= 30, -5)
        refuse_if(self.free(owner) < max(price, 0) * amount, -6)
        number = self.make(owner, source, sink, kind, amount)
        refuse_if(not self.safe(), -7)
        self.balances[owner] -= price * amount
        self.sales += price * amount
        return [number]

    def call5(self, source, sink):
        self.way(source, sink)
        return [self.most(source, sink, self.rights)]

    def call6(self, right, amount):
        self.there(right)
        refuse_if(self.rights[right][4] < amount, -4)
        left = self.shrink(right, amount)
        refuse_if(not self.safe(), -7)
        return [left]

    def call7(self, right):
        """The least amount is found by halving: what is safe stays so where more is kept."""
        self.there(right)
        low, high = 0, self.rights[right][4]
        while low < high:
            middle = (low + high) // 2
            tried = dict(self.rights)
            tried[right] = self.rights[right][:4] + [middle]
            low, high = (low, middle) if self.safe(tried) else (middle + 1, high)
        return [low]

    def call8(self, right, buyer, amount, price):
        self.there(right)
        owner, source, sink, kind, whole = self.rights[right]
        refuse_if(whole < amount or owner == buyer, -4)
        refuse_if(whole != amount and len(self.rights) >= 30, -5)
        cost = price * amount
        refuse_if(cost > 0 and cost > self.free(buyer), -6)
        refuse_if(cost < 0 and -cost > self.free(owner), -6)
        self.balances[buyer] -= cost
        self.balances[owner] += cost
        if whole == amount:
            self.rights[right][0] = buyer
            return [right]
        self.shrink(right, amount)
        return [self.make(buyer, source, sink, kind, amount)]

    def call9(self, right, other):
        self.there(right, other)
        first, second = self.rights[right], self.rights[other]
        refuse_if(right == other or first[:4] != second[:4] or first[4] + second[4] > BILLION, -4)
        first[4] += second[4]
        self.rights.pop(other)
        return [first[4]]

    def call10(self, right, other, amount):
        self.there(right, other)
        owner, source, middle, kind, first = self.rights[right]
        owner2, middle2, sink, kind2, second = self.rights[other]
        refuse_if(right == other or (owner, kind) != (owner2, kind2), -4)
        refuse_if(middle != middle2 or sink == source or min(first, second) < amount, -4)
        self.shrink(right, amount)
        self.shrink(other, amount)
        number = self.make(owner, source, sink, kind, amount)
        refuse_if(len(self.rights) > 30, -5)
        return [number]

    def call11(self, right, zone):
        self.there(right)
        owner, source, sink, kind, amount = self.rights[right]
        refuse_if(zone >= self.zones or zone in (source, sink), -4)
        refuse_if(len(self.rights) == 30, -5)
        self.rights.pop(right)
        numbers = [self.make(owner, source, zone, kind, amount), self.make(owner, zone, sink, kind, amount)]
        refuse_if(not self.safe(), -7)
        return numbers

    def call12(self, right, other, amount):
        self.there(right, other)
        owner, source, sink, kind, first = self.rights[right]
        owner2, source2, sink2, kind2, second = self.rights[other]
        refuse_if(right == other or owner != owner2 or kind or kind2, -4)
        refuse_if((source, sink) != (sink2, source2) or min(first, second) < amount, -4)
        return [self.shrink(right, amount), self.shrink(other, amount)]

    def call13(self, owner, source, sink, kind, amount, price):
        self.way(source, sink)
        refuse_if(len(self.bids) >= 10, -5)
        refuse_if(self.free(owner) < max(price, 0) * amount, -6)
        number = self.coming_bid
        self.bids[number] = [owner, source, sink, kind, amount, price]
        self.coming_bid += 1
        return [number]

    def call14(self, bid):
        refuse_if(bid not in self.bids, -3)
        self.bids.pop(bid)

    def candidates(self):
        """The bids that could get a right, with how much of it."""
        if len(self.rights) >= 30:
            return {}
        most = {number: self.most(bid[1], bid[2], self.rights) for number, bid in self.bids.items()}
        return {number: min(most[number], bid[4]) for number, bid in self.bids.items() if most[number] > 0}

    def call15(self):
        made = []
        while self.candidates() and len(made) < 16:
            amounts = self.candidates()
            number = max(amounts, key=lambda number: (self.bids[number][5], -number))
            owner, source, sink, kind, left, price = self.bids[number]
            amount = amounts[number]
            made.append((number, self.make(owner, source, sink, kind, amount), amount))
            self.balances[owner] -= price * amount
            self.sales += price * amount
            self.bids[number][4] -= amount
            if left == amount:
                self.bids.pop(number)
        return [int(not self.candidates())] + self.row(made)

    def call16(self, prices, flows):
        self.one_for_each_zone(prices)
        refuse_if(len(flows) != len(self.lines), -4)
        rent = 0
        for (a, b, forth, back), flow in zip(self.lines, flows):
            rise = prices[b] - prices[a]
            least = forth if rise > 0 else -back
            greatest = -back if rise < 0 else forth
            refuse_if(not least <= flow <= greatest, -8)
            rent += flow * rise
        payouts = self.payouts(prices)
        for right in self.rights.values():
            self.balances[right[0]] += self.worth(right, prices)
        self.till += rent - payouts
        self.cash -= rent
        return [rent, payouts]

    def call17(self, prices):
        self.one_for_each_zone(prices)
        return [self.payouts(prices), self.earnings(prices)]

    def call18(self, right, prices):
        self.there(right)
        self.one_for_each_zone(prices)
        return [self.worth(self.rights[right], prices)]

    def call19(self, marks):
        """At prices of 1 in the group and 0 elsewhere rights pay what is promised and lines earn their room."""
        self.one_for_each_zone(marks)
        return [self.payouts(marks), self.earnings(marks)]

    def call20(self):
        found = []
        for marks in itertools.product((0, 1), repeat=self.zones):
            number = sum(2 ** zone for zone in range(self.zones) if marks[zone])
            if 0 < sum(marks) < self.zones:
                found.append((self.earnings(marks) - self.payouts(marks), number, marks))
        slack, number, marks = min(found)
        return [slack] + self.row([marks])

    def call21(self, owner):
        return [self.balances[owner], self.free(owner)]

    def call22(self, owner, payin):
        refuse_if(payin < 0 and self.free(owner) < -payin, -6)
        self.balances[owner] += payin
        self.cash -= payin
        return [self.balances[owner]]

    def call23(self):
        return [self.till, self.sales, self.cash]

    def call24(self, owner):
        return self.row([number] + right[1:] for number, right in sorted(self.rights.items()) if right[0] == owner)

    def call25(self):
        return ([self.zones, self.coming, self.coming_bid] + self.row(self.lines)
                + self.row([number] + right for number, right in sorted(self.rights.items()))
                + self.row([number] + bid for number, bid in sorted(self.bids.items())))
