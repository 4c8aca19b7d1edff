"""Long lists of calls, made by a seed: the program answers as the second telling of the calls does."""

import itertools
import random
import unittest

from tests.helper import EVERYTHING, run
from tests.oracle import BILLION, BOUNDS, KEYS, ROWS, Oracle

LISTS = 200

# Where the two zones of a way stand in a call.
WAYS = {1: 1, 4: 2, 5: 1, 13: 2}


def choose_number(source, key, oracle):
    """A number that mostly makes sense in the house as it is."""
    if source.random() < 0.01:
        low, high = BOUNDS[key]
        return source.choice([low - 1, high + 1, low, high, -10 ** 18, 10 ** 18])
    if key == "zone" and oracle.zones:
        return source.randrange(oracle.zones)
    if key == "line" and oracle.zones:
        return source.randrange(max(1, len(oracle.lines)))
    if key == "right" and oracle.zones and oracle.rights and source.random() < 0.97:
        return source.choice(list(oracle.rights))
    if key == "bid" and oracle.zones and oracle.bids and source.random() < 0.9:
        return source.choice(list(oracle.bids))
    if key == "payin":
        return source.choice([source.randint(-30, 90), source.randint(-9, 200), 10 ** 12])
    if key == "room":
        return source.choice([0, 1, source.randint(0, 12), source.randint(5, 40), BILLION])
    if key == "amount":
        return source.choice([1, 2, source.randint(1, 6), source.randint(1, 20), BILLION])
    if key == "price":
        return source.choice([0, 0, 0, source.randint(-9, 3), source.randint(-3, 9)])
    if key == "owner":
        return source.choice([0, 0, 0, 1, 1, source.randint(0, 7)])
    low, high = BOUNDS[key]
    return source.randint(low, min(high, low + 30))


def choose_pair(source, oracle, place):
    """Two rights that fit join, chain or annul, if there are such."""
    fitting = {
        9: lambda one, two: one[:4] == two[:4],
        10: lambda one, two: (one[0], one[2], one[3]) == (two[0], two[1], two[3]),
        12: lambda one, two: (one[0], one[1], one[2]) == (two[0], two[2], two[1]),
    }[place]
    pairs = [(a, b) for a, b in itertools.permutations(oracle.rights, 2)
             if fitting(oracle.rights[a], oracle.rights[b])]
    return source.choice(pairs) if pairs else None


def choose_flow(source, line, prices):
    """Mostly a flow that fits."""
    a, b, forth, back = line
    if source.random() < 0.03:
        return source.choice([forth + 1, -back - 1, 0, forth, -back])
    if prices[a] == prices[b]:
        return source.randint(-back, forth)
    return forth if prices[a] < prices[b] else -back


def choose_rows(source, oracle, place):
    """Prices or marks for each zone, flows for each line; now and then one too many or one out of range."""
    zones = oracle.zones or 2
    lines = oracle.lines if oracle.zones else []
    if place == 19:
        rows = [[source.randint(0, 1) for zone in range(zones)]]
    else:
        spread = source.choice([0, 1, 9, 10 ** 6])
        rows = [[source.randint(-spread, spread) for zone in range(zones)]]
    if place == 16:
        rows.append([choose_flow(source, line, rows[0]) for line in lines])
    if source.random() < 0.05:
        source.choice(rows).append(0)
    if source.random() < 0.05:
        row = source.choice(rows)
        row[:1] = [source.choice([2, -1, 10 ** 6 + 1, -10 ** 6 - 1, BILLION + 1, -BILLION - 1])]
    if source.random() < 0.02:
        source.choice(rows).extend([0] * source.choice([58, 62, 63]))
    return rows


def choose_call(source, oracle, step, places):
    if step == 0 and source.random() < 0.9:
        place = 0
    elif step < 8 and source.random() < 0.7:
        place = 1
    else:
        place = source.choice(places)
    call = [place] + [choose_number(source, key, oracle) for key in KEYS[place].split()]
    if place in (9, 10, 12) and oracle.zones and source.random() < 0.8:
        pair = choose_pair(source, oracle, place)
        if pair:
            call[1:3] = pair
    if place in WAYS and oracle.zones and source.random() < 0.95:
        spot = WAYS[place]
        call[spot:spot + 2] = source.sample(range(oracle.zones), 2)
    if place in ROWS:
        for row in choose_rows(source, oracle, place):
            call += [len(row)] + row
    return tuple(call)


def make_list(seed):
    """A list of calls with the answers of the second telling."""
    source = random.Random(seed)
    oracle = Oracle()
    places = [place for place in range(1, 26) for time in range(source.choice([1, 1, 2, 5]))]
    places += [4, 13] * source.choice([1, 5, 15]) + [22] * 3
    if source.random() < 0.3:
        places.append(0)
    calls = []
    told = []
    for step in range(source.choice([20, 60, 190, 190])):
        call = choose_call(source, oracle, step, places)
        calls.append(call)
        told.append(oracle.ask(call))
    calls += EVERYTHING
    told += [oracle.ask(call) for call in EVERYTHING]
    return calls, told, oracle


class AgainstTheSecondTelling(unittest.TestCase):
    @classmethod
    def setUpClass(cls):
        cls.lists = [make_list(seed) for seed in range(LISTS)]

    def test_the_same_answers(self):
        for seed, (calls, told, oracle) in enumerate(self.lists):
            with self.subTest(seed=seed):
                for call, mine, other in zip(calls, run(calls), told, strict=True):
                    self.assertEqual(mine, other, call)

    def test_refused_calls_leave_everything(self):
        for seed, (calls, told, oracle) in enumerate(self.lists):
            with self.subTest(seed=seed):
                accepted = [(call, answer) for call, answer in zip(calls, told) if answer[0] == 0]
                if accepted:
                    self.assertEqual(run([call for call, answer in accepted]), [answer for call, answer in accepted])

    def test_each_call_is_accepted_and_refused_in_each_way(self):
        """Else these lists would say little."""
        found = {(call[0], answer[0]) for calls, told, oracle in self.lists for call, answer in zip(calls, told)}
        ways = {
            0: (), 1: (-3, -5), 2: (-3, -7), 3: (-3, -7), 4: (-3, -5, -6, -7), 5: (-3,), 6: (-3, -4, -7), 7: (-3,),
            8: (-3, -4, -5, -6), 9: (-3, -4), 10: (-3, -4, -5), 11: (-3, -4, -5, -7), 12: (-3, -4),
            13: (-3, -5, -6), 14: (-3,), 15: (), 16: (-4, -8), 17: (-4,), 18: (-3, -4), 19: (-4,), 20: (), 21: (),
            22: (-6,), 23: (), 24: (), 25: (),
        }
        for place, refusals in ways.items():
            for answer in (0,) + refusals:
                self.assertIn((place, answer), found)

    def test_awards_end_in_each_way(self):
        """With nothing more to do and with more, with no right, with several, with 16."""
        found = {(answer[1], answer[2] // 3) for calls, told, oracle in self.lists
                 for call, answer in zip(calls, told) if call[0] == 15 and answer[0] == 0}
        self.assertLessEqual({(1, 0), (1, 1), (1, 2), (0, 16)}, found)
        self.assertTrue(all(ended == 1 or times == 16 for ended, times in found))

    def test_all_money_together_is_0(self):
        """What one has, another has paid: owners, till, sales and cash."""
        for seed, (calls, told, oracle) in enumerate(self.lists):
            if oracle.zones:
                told = run(calls)[-len(EVERYTHING):]
                self.assertEqual(sum(told[1][1:]) + sum(answer[1] for answer in told[2:]), 0, seed)

    def test_what_is_safe_pays_at_all_prices(self):
        source = random.Random(1)
        for seed, (calls, told, oracle) in enumerate(self.lists):
            if oracle.zones:
                for time in range(20):
                    prices = [source.randint(-50, 50) for zone in range(oracle.zones)]
                    self.assertLessEqual(oracle.payouts(prices), oracle.earnings(prices))


if __name__ == "__main__":
    unittest.main()
