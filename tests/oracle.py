"""A second telling of the calls, slow and in other words, for the tests to hold the program against.

Safety is asked here of prices, not of groups: rights and lines are safe just if at all prices that are 0 or 1
the payouts are not above the earnings. What a call may give is found by trying, not by reckoning.
"""

import copy
import itertools

BILLION = 10 ** 9
KEYS = {
    0: "zones", 1: "zone zone room room", 2: "line room room", 3: "line room room",
    4: "owner zone zone kind amount price", 5: "zone zone", 6: "right amount", 7: "right",
    8: "right owner amount price", 9: "right right", 10: "right right amount", 11: "right zone",
    12: "right right amount",
}
BOUNDS = {
    "zones": (2, 6), "zone": (0, 5), "room": (0, BILLION), "line": (0, 9), "owner": (0, 7), "kind": (0, 1),
    "amount": (1, BILLION), "price": (-10 ** 6, 10 ** 6), "right": (1, BILLION),
}


class Refused(Exception):
    pass


def refuse_if(condition, number):
    if condition:
        raise Refused(number)


class Oracle:
    def __init__(self):
        self.zones = None

    def ask(self, call):
        place, *numbers = call
        kept = copy.deepcopy(self.__dict__)
        try:
            for key, number in zip(KEYS[place].split(), numbers, strict=True):
                refuse_if(not BOUNDS[key][0] <= number <= BOUNDS[key][1], -1)
            refuse_if(place != 0 and self.zones is None, -2)
            return [0] + (getattr(self, f"call{place}")(*numbers) or [])
        except Refused as refused:
            self.__dict__ = kept
            return [refused.args[0]]

    # What the rights and lines come to at prices.

    def payouts(self, prices, rights=None):
        total = 0
        for owner, source, sink, kind, amount in (self.rights if rights is None else rights).values():
            worth = amount * (prices[sink] - prices[source])
            total += max(worth, 0) if kind else worth
        return total

    def earnings(self, prices):
        return sum(max(prices[b] - prices[a], 0) * forth + max(prices[a] - prices[b], 0) * back
                   for a, b, forth, back in self.lines)

    def safe(self, rights=None):
        return all(self.payouts(prices, rights) <= self.earnings(prices)
                   for prices in itertools.product((0, 1), repeat=self.zones))

    def most(self, source, sink, rights):
        return min([BILLION] + [self.earnings(prices) - self.payouts(prices, rights)
                                for prices in itertools.product((0, 1), repeat=self.zones)
                                if prices[sink] > prices[source]])

    # Steps that several calls share.

    def way(self, source, sink):
        refuse_if(source >= self.zones or sink >= self.zones or source == sink, -3)

    def make(self, *right):
        number = self.coming
        self.rights[number] = list(right)
        self.coming += 1
        return number

    def shrink(self, number, amount):
        self.rights[number][4] -= amount
        left = self.rights[number][4]
        if left == 0:
            self.rights.pop(number)
        return left

    def there(self, *numbers):
        refuse_if(any(number not in self.rights for number in numbers), -3)

    # The calls.

    def call0(self, zones):
        self.zones, self.lines, self.rights, self.coming, self.balances = zones, [], {}, 1, [0] * 8

    def call1(self, a, b, forth, back):
        self.way(a, b)
        refuse_if(len(self.lines) >= 10, -5)
        self.lines.append([a, b, forth, back])
        return [len(self.lines) - 1]

    def call2(self, line, forth, back):
        refuse_if(line >= len(self.lines), -3)
        self.lines[line][2:] = [forth, back]
        refuse_if(not self.safe(), -7)

    def call3(self, line, forth, back):
        refuse_if(line >= len(self.lines), -3)
        self.lines[line][2:] = [forth, back]
        cut = {}
        for number in sorted(self.rights, reverse=True):
            if self.safe() or not self.rights[number][3]:
                continue
            owner, source, sink, kind, amount = self.rights[number]
            others = {key: right for key, right in self.rights.items() if key != number}
            most = self.most(source, sink, others)
            if most <= 0:
                self.rights.pop(number)
                cut[number] = 0
            elif most < amount:
                self.rights[number][4] = most
                cut[number] = most
        refuse_if(not self.safe(), -7)
        return [2 * len(cut)] + [part for number in sorted(cut) for part in (number, cut[number])]

    def call4(self, owner, source, sink, kind, amount, price):
        self.way(source, sink)
        refuse_if(len(self.rights) >= 30, -5)
        refuse_if(self.balances[owner] < max(price, 0) * amount, -6)
        number = self.make(owner, source, sink, kind, amount)
        refuse_if(not self.safe(), -7)
        self.balances[owner] -= price * amount
        return [number]

    def call5(self, source, sink):
        self.way(source, sink)
        return [self.most(source, sink, self.rights)]

    def call6(self, right, amount):
        self.there(right)
        refuse_if(self.rights[right][4] < amount, -4)
        left = self.shrink(right, amount)
        refuse_if(not self.safe(), -7)
        return [left]

    def call7(self, right):
        """The least amount is found by halving: what is safe stays so where more is kept."""
        self.there(right)
        low, high = 0, self.rights[right][4]
        while low < high:
            middle = (low + high) // 2
            tried = dict(self.rights)
            tried[right] = self.rights[right][:4] + [middle]
            low, high = (low, middle) if self.safe(tried) else (middle + 1, high)
        return [low]

    def call8(self, right, buyer, amount, price):
        self.there(right)
        owner, source, sink, kind, whole = self.rights[right]
        refuse_if(whole < amount or owner == buyer, -4)
        refuse_if(whole != amount and len(self.rights) >= 30, -5)
        cost = price * amount
        refuse_if(cost > 0 and cost > self.balances[buyer], -6)
        refuse_if(cost < 0 and -cost > self.balances[owner], -6)
        self.balances[buyer] -= cost
        self.balances[owner] += cost
        if whole == amount:
            self.rights[right][0] = buyer
            return [right]
        self.shrink(right, amount)
        return [self.make(buyer, source, sink, kind, amount)]

    def call9(self, right, other):
        self.there(right, other)
        first, second = self.rights[right], self.rights[other]
        refuse_if(right == other or first[:4] != second[:4] or first[4] + second[4] > BILLION, -4)
        first[4] += second[4]
        self.rights.pop(other)
        return [first[4]]

    def call10(self, right, other, amount):
        self.there(right, other)
        owner, source, middle, kind, first = self.rights[right]
        owner2, middle2, sink, kind2, second = self.rights[other]
        refuse_if(right == other or (owner, kind) != (owner2, kind2), -4)
        refuse_if(middle != middle2 or sink == source or min(first, second) < amount, -4)
        self.shrink(right, amount)
        self.shrink(other, amount)
        number = self.make(owner, source, sink, kind, amount)
        refuse_if(len(self.rights) > 30, -5)
        return [number]

    def call11(self, right, zone):
        self.there(right)
        owner, source, sink, kind, amount = self.rights[right]
        refuse_if(zone >= self.zones or zone in (source, sink), -4)
        refuse_if(len(self.rights) == 30, -5)
        self.rights.pop(right)
        numbers = [self.make(owner, source, zone, kind, amount), self.make(owner, zone, sink, kind, amount)]
        refuse_if(not self.safe(), -7)
        return numbers

    def call12(self, right, other, amount):
        self.there(right, other)
        owner, source, sink, kind, first = self.rights[right]
        owner2, source2, sink2, kind2, second = self.rights[other]
        refuse_if(right == other or owner != owner2 or kind or kind2, -4)
        refuse_if((source, sink) != (sink2, source2) or min(first, second) < amount, -4)
        return [self.shrink(right, amount), self.shrink(other, amount)]
