"""What the tests share: calls by name, and answers call by call."""

from zonerights.house import answers

OPEN, LINE, ROOMS, OUTAGE, GRANT, MOST, BACK, KEEP, PASS, JOIN, CHAIN, VIA, ANNUL = range(13)

OBLIGATION = 0
OPTION = 1
BILLION = 10 ** 9
GREAT = 10 ** 18


def flat(calls):
    return [number for call in calls for number in call]


def split(told):
    parts = []
    spot = 0
    while spot < len(told):
        parts.append(told[spot + 1:spot + 1 + told[spot]])
        spot += 1 + told[spot]
    assert spot == len(told), "the last answer is shorter than told"
    return parts


def run(calls):
    """The answer of each call, without its count."""
    return split(answers(flat(calls)))


def last(calls):
    return run(calls)[-1]


def obligation(source, sink, amount, owner=0, price=0):
    return (GRANT, owner, source, sink, OBLIGATION, amount, price)


def option(source, sink, amount, owner=0, price=0):
    return (GRANT, owner, source, sink, OPTION, amount, price)


def two_zones(forth, back=0):
    return [(OPEN, 2), (LINE, 0, 1, forth, back)]


def wide(zones):
    """A house with great rooms between each two zones (at most 5 zones: 10 lines)."""
    lines = [(LINE, a, b, BILLION, BILLION) for a in range(zones) for b in range(a + 1, zones)]
    return [(OPEN, zones)] + lines


def thirty_rights(owner=7):
    """Thirty options of 2 from 0 to 1."""
    return [option(0, 1, 2, owner=owner) for number in range(30)]


def probes(zones, owners=8):
    """Calls whose answers tell what a house holds: amounts, kinds and numbers of rights, owners, balances."""
    tail = [(MOST, a, b) for a in range(zones) for b in range(zones) if a != b]
    tail += [(KEEP, number) for number in range(1, 36)]
    tail += [(BACK, number, BILLION) for number in range(1, 36)]
    tail += [(PASS, number, owner, BILLION, 0) for number in range(1, 36) for owner in (0, 1)]
    tail += [(GRANT, owner, 0, 1, OBLIGATION, amount, 1)
             for owner in range(owners) for amount in (BILLION, 100, 30, 12, 10, 7, 6, 5, 4, 1)]
    tail += [(BACK, number, 1) for number in range(1, 36)]
    tail += [obligation(0, 1, 1), (MOST, 0, 1), (MOST, 1, 0)]
    return tail


class Balances:
    """For test cases: what an owner's balance is, as far as grants can tell it."""

    def assert_balance(self, calls, owner, balance):
        """-6 comes ahead of -7, so a grant tells what is free also where there is no room."""
        if balance > 0:
            enough = last(calls + [(GRANT, owner, 0, 1, OBLIGATION, balance, 1)])
            self.assertNotEqual(enough, [-6], "less than the balance told")
        more = last(calls + [(GRANT, owner, 0, 1, OBLIGATION, balance + 1, 1)])
        self.assertEqual(more, [-6], "more than the balance told")
