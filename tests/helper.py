"""What the tests share: calls by name, and answers call by call."""

from zonerights.house import answers

(OPEN, LINE, ROOMS, OUTAGE, GRANT, MOST, BACK, KEEP, PASS, JOIN, CHAIN, VIA, ANNUL, BID, UNBID, AWARD, SETTLE, PAYOUT,
 VALUE, GROUP, TIGHT, MONEY, PAYIN, HOUSE, RIGHTS, STATE) = range(26)

OBLIGATION = 0
OPTION = 1
BILLION = 10 ** 9
GREAT = 10 ** 18

# What these answer tells all that a house holds.
EVERYTHING = [(STATE,), (HOUSE,)] + [(MONEY, owner) for owner in range(8)]


def flat(calls):
    return [number for call in calls for number in call]


def split(told):
    parts = []
    spot = 0
    while spot < len(told):
        parts.append(told[spot + 1:spot + 1 + told[spot]])
        spot += 1 + told[spot]
    assert spot == len(told), "the last answer is shorter than told"
    return parts


def run(calls):
    """The answer of each call, without its count."""
    return split(answers(flat(calls)))


def last(calls):
    return run(calls)[-1]


def obligation(source, sink, amount, owner=0, price=0):
    return (GRANT, owner, source, sink, OBLIGATION, amount, price)


def option(source, sink, amount, owner=0, price=0):
    return (GRANT, owner, source, sink, OPTION, amount, price)


def bid(source, sink, amount, price=0, owner=0, kind=OBLIGATION):
    return (BID, owner, source, sink, kind, amount, price)


def with_row(call, row):
    """A call with one more row behind it."""
    return tuple(call) + (len(row),) + tuple(row)


def settle(prices, flows):
    return with_row(with_row((SETTLE,), prices), flows)


def payout(prices):
    return with_row((PAYOUT,), prices)


def value(right, prices):
    return with_row((VALUE, right), prices)


def group(marks):
    return with_row((GROUP,), marks)


def two_zones(forth, back=0):
    return [(OPEN, 2), (LINE, 0, 1, forth, back)]


def wide(zones):
    """A house with great rooms between each two zones (at most 5 zones: 10 lines)."""
    lines = [(LINE, a, b, BILLION, BILLION) for a in range(zones) for b in range(a + 1, zones)]
    return [(OPEN, zones)] + lines


def thirty_rights(owner=7):
    """Thirty options of 2 from 0 to 1."""
    return [option(0, 1, 2, owner=owner) for number in range(30)]


def told_of(calls):
    """All that the house holds behind these calls."""
    return run(calls + EVERYTHING)[len(calls):]


class Balances:
    """For test cases: what an owner's balance is."""

    def assert_balance(self, calls, owner, balance):
        self.assertEqual(last(calls + [(MONEY, owner)])[1], balance)
