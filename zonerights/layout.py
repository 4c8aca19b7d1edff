"""How calls lie one behind another in a list, within which ranges their numbers are, and how rows are answered."""

# One tuple for each call, at its place.
NUMBER_NAMES = (
    ("zones",),
    ("a", "b", "forth", "back"),
    ("line", "forth", "back"),
    ("line", "forth", "back"),
    ("owner", "source", "sink", "kind", "amount", "price"),
    ("source", "sink"),
    ("right", "amount"),
    ("right",),
    ("right", "buyer", "amount", "price"),
    ("right", "other"),
    ("right", "other", "amount"),
    ("right", "zone"),
    ("right", "other", "amount"),
    ("owner", "source", "sink", "kind", "amount", "price"),
    ("bid",),
    (),
    (),
    (),
    ("right",),
    (),
    (),
    ("owner",),
    ("owner", "payin"),
    (),
    ("owner",),
    (),
)

# By the places of the calls that have rows.
ROW_NAMES = {16: ("prices", "flows"), 17: ("prices",), 18: ("prices",), 19: ("marks",)}

LONGEST_ROW = 64

# By the names of numbers and of rows: a row's range is that of each number in it.
RANGES = {
    "zones": (2, 6),
    "a": (0, 5),
    "b": (0, 5),
    "source": (0, 5),
    "sink": (0, 5),
    "zone": (0, 5),
    "line": (0, 9),
    "forth": (0, 1000000000),
    "back": (0, 1000000000),
    "owner": (0, 7),
    "buyer": (0, 7),
    "kind": (0, 1),
    "amount": (1, 1000000000),
    "price": (-1000000, 1000000),
    "right": (1, 1000000000),
    "other": (1, 1000000000),
    "bid": (1, 1000000000),
    "payin": (-1000000000000000, 1000000000000000),
    "prices": (-1000000, 1000000),
    "flows": (-1000000000, 1000000000),
    "marks": (0, 1),
}


class Call:
    def __init__(self, place, numbers, rows):
        self.place = place
        self.numbers = numbers
        self.rows = rows


def read_calls(calls):
    found = []
    spot = 0
    while spot < len(calls):
        place = calls[spot]
        names = NUMBER_NAMES[place]
        numbers = read_numbers(calls, spot + 1, names)
        spot = spot + 1 + len(names)
        rows = {}
        for name in ROW_NAMES.get(place, ()):
            end = spot + 1 + calls[spot]
            rows[name] = calls[spot + 1:end]
            spot = end
        found.append(Call(place, numbers, rows))
    return found


def read_numbers(calls, spot, names):
    numbers = {}
    for k, name in enumerate(names):
        numbers[name] = calls[spot + k]
    return numbers


def is_as_told(call):
    if not all([is_in_range(name, number) for name, number in call.numbers.items()]):
        return False
    return all([is_row_as_told(name, row) for name, row in call.rows.items()])


def is_row_as_told(name, row):
    return len(row) <= LONGEST_ROW and all([is_in_range(name, number) for number in row])


def is_in_range(name, number):
    bounds = RANGES[name]
    return bounds[0] <= number <= bounds[1]


# A row is answered as how many numbers it has, then these.
def counted(row):
    return [len(row)] + row
