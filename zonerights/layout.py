"""How calls lie one behind another in a list, and within which ranges their numbers are."""

# One tuple for each call, at its place. Places without a call of their own yet stand here too:
# the calls behind them can be found only if one knows how long they are.
NUMBER_NAMES = (
    ("zones",),
    ("a", "b", "forth", "back"),
    ("line", "forth", "back"),
    ("line", "forth", "back"),
    ("owner", "source", "sink", "kind", "amount", "price"),
    ("source", "sink"),
    ("right", "amount"),
    ("right",),
    ("right", "buyer", "amount", "price"),
    ("right", "other"),
    ("right", "other", "amount"),
    ("right", "zone"),
    ("right", "other", "amount"),
    ("owner", "source", "sink", "kind", "amount", "price"),
    ("bid",),
    (),
    (),
    (),
    ("right",),
    (),
    (),
    ("owner",),
    ("owner", "payin"),
    (),
    ("owner",),
    (),
)

ROW_COUNTS = {16: 2, 17: 1, 18: 1, 19: 1}

RANGES = {
    "zones": (2, 6),
    "a": (0, 5),
    "b": (0, 5),
    "source": (0, 5),
    "sink": (0, 5),
    "zone": (0, 5),
    "line": (0, 9),
    "forth": (0, 1000000000),
    "back": (0, 1000000000),
    "owner": (0, 7),
    "buyer": (0, 7),
    "kind": (0, 1),
    "amount": (1, 1000000000),
    "price": (-1000000, 1000000),
    "right": (1, 1000000000),
    "other": (1, 1000000000),
}


class Call:
    def __init__(self, place, numbers, rows):
        self.place = place
        self.numbers = numbers
        self.rows = rows


def read_calls(calls):
    found = []
    spot = 0
    while spot < len(calls):
        place = calls[spot]
        names = NUMBER_NAMES[place]
        numbers = read_numbers(calls, spot + 1, names)
        spot = spot + 1 + len(names)
        rows = []
        while len(rows) < ROW_COUNTS.get(place, 0):
            end = spot + 1 + calls[spot]
            rows.append(calls[spot + 1:end])
            spot = end
        found.append(Call(place, numbers, rows))
    return found


def read_numbers(calls, spot, names):
    numbers = {}
    for k, name in enumerate(names):
        numbers[name] = calls[spot + k]
    return numbers


def are_in_range(numbers):
    return all([is_in_range(name, number) for name, number in numbers.items()])


def is_in_range(name, number):
    bounds = RANGES[name]
    return bounds[0] <= number <= bounds[1]
