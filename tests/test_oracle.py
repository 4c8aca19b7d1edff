"""Long lists of calls, made by a seed: the program answers as the second telling of the calls does."""

import itertools
import random
import unittest

from tests.helper import run
from tests.oracle import BILLION, BOUNDS, KEYS, Oracle

LISTS = 120


def choose_number(source, key, oracle):
    """A number that mostly makes sense in the house as it is."""
    if source.random() < 0.01:
        low, high = BOUNDS[key]
        return source.choice([low - 1, high + 1, low, high, -10 ** 18, 10 ** 18])
    if key == "zone" and oracle.zones:
        return source.randrange(oracle.zones)
    if key == "line" and oracle.zones:
        return source.randrange(max(1, len(oracle.lines)))
    if key == "right" and oracle.zones and oracle.rights and source.random() < 0.97:
        return source.choice(list(oracle.rights))
    if key == "room":
        return source.choice([0, 1, source.randint(0, 12), source.randint(5, 40), BILLION])
    if key == "amount":
        return source.choice([1, 2, source.randint(1, 6), source.randint(1, 20), BILLION])
    if key == "price":
        return source.choice([0, 0, 0, source.randint(-9, 3), source.randint(-3, 9)])
    if key == "owner":
        return source.choice([0, 0, 0, 1, 1, source.randint(0, 7)])
    low, high = BOUNDS[key]
    return source.randint(low, min(high, low + 30))


def choose_pair(source, oracle, place):
    """Two rights that fit join, chain or annul, if there are such."""
    fitting = {
        9: lambda one, two: one[:4] == two[:4],
        10: lambda one, two: (one[0], one[2], one[3]) == (two[0], two[1], two[3]),
        12: lambda one, two: (one[0], one[1], one[2]) == (two[0], two[2], two[1]),
    }[place]
    pairs = [(a, b) for a, b in itertools.permutations(oracle.rights, 2)
             if fitting(oracle.rights[a], oracle.rights[b])]
    return source.choice(pairs) if pairs else None


def choose_call(source, oracle, step, places):
    if step == 0 and source.random() < 0.9:
        place = 0
    elif step < 8 and source.random() < 0.7:
        place = 1
    else:
        place = source.choice(places)
    call = [place] + [choose_number(source, key, oracle) for key in KEYS[place].split()]
    if place in (9, 10, 12) and oracle.zones and source.random() < 0.8:
        pair = choose_pair(source, oracle, place)
        if pair:
            call[1:3] = pair
    return tuple(call)


def make_list(seed):
    """A list of calls with the answers of the second telling."""
    source = random.Random(seed)
    oracle = Oracle()
    places = [1, 2, 3, 5, 6, 7] + [4] * source.choice([3, 12]) + [8, 9, 10, 11, 12] * source.choice([1, 3])
    if source.random() < 0.3:
        places.append(0)
    calls = []
    told = []
    for step in range(source.choice([20, 60, 200])):
        call = choose_call(source, oracle, step, places)
        calls.append(call)
        told.append(oracle.ask(call))
    return calls, told, oracle


class AgainstTheSecondTelling(unittest.TestCase):
    @classmethod
    def setUpClass(cls):
        cls.lists = [make_list(seed) for seed in range(LISTS)]

    def test_the_same_answers(self):
        for seed, (calls, told, oracle) in enumerate(self.lists):
            with self.subTest(seed=seed):
                for call, mine, other in zip(calls, run(calls), told, strict=True):
                    self.assertEqual(mine, other, call)

    def test_refused_calls_leave_everything(self):
        for seed, (calls, told, oracle) in enumerate(self.lists):
            with self.subTest(seed=seed):
                accepted = [(call, answer) for call, answer in zip(calls, told) if answer[0] == 0]
                if accepted:
                    self.assertEqual(run([call for call, answer in accepted]), [answer for call, answer in accepted])

    def test_each_call_is_accepted_and_refused_in_each_way(self):
        """Else these lists would say little."""
        found = {(call[0], answer[0]) for calls, told, oracle in self.lists for call, answer in zip(calls, told)}
        ways = {
            0: (), 1: (-3, -5), 2: (-3, -7), 3: (-3, -7), 4: (-3, -5, -6, -7), 5: (-3,), 6: (-3, -4, -7), 7: (-3,),
            8: (-3, -4, -5, -6), 9: (-3, -4), 10: (-3, -4, -5), 11: (-3, -4, -5, -7), 12: (-3, -4),
        }
        for place, refusals in ways.items():
            for answer in (0,) + refusals:
                self.assertIn((place, answer), found)

    def test_what_is_safe_pays_at_all_prices(self):
        source = random.Random(1)
        for seed, (calls, told, oracle) in enumerate(self.lists):
            if oracle.zones:
                for time in range(20):
                    prices = [source.randint(-50, 50) for zone in range(oracle.zones)]
                    self.assertLessEqual(oracle.payouts(prices), oracle.earnings(prices))


if __name__ == "__main__":
    unittest.main()
