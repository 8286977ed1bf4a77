"""How the one list of whole numbers is read as calls."""

# For each place: how many numbers stand behind it, and how many rows (None: any number).
FORMS = {
    0: (0, 1),
    1: (1, None),
    2: (1, 1),
    3: (1, 1),
    4: (1, 1),
    5: (1, 0),
    6: (1, 0),
    7: (2, 0),
    8: (0, 0),
    9: (0, 0),
    10: (0, 0),
    11: (1, 1),
    12: (2, 0),
    13: (1, 0),
    14: (0, 0),
    15: (0, 1),
    16: (0, 0),
    17: (1, 0),
    18: (0, 1),
    19: (0, 1),
    20: (0, 0),
}


class Call:
    """A call: its place, the numbers behind it, and its further rows."""

    def __init__(self, place, numbers, rows):
        self.place = place
        self.numbers = numbers
        self.rows = rows


class Reader:
    """A place in a list from which it's read on; the list itself stays as it is."""

    def __init__(self, flat):
        self.flat = flat
        self.at = 0

    def has_more(self):
        """Whether something is left to be read."""
        return self.at < len(self.flat)

    def take(self):
        """The next number."""
        number = self.flat[self.at]
        self.at = self.at + 1
        return number

    def take_row(self):
        """The next row, before which stands how many numbers it has."""
        size = self.take()
        start = self.at
        self.at = start + size
        return self.flat[start:self.at]

    def take_call(self):
        """The next call."""
        place = self.take()
        numbers = self.take_row()
        size = self.take()
        rows = []
        while len(rows) < size:
            rows.append(self.take_row())
        return Call(place, numbers, rows)


def read_calls(flat):
    """All calls of the list, in order."""
    reader = Reader(flat)
    calls = []
    while reader.has_more():
        calls.append(reader.take_call())
    return calls


def has_told_form(call):
    """Whether the place is known and has the numbers and rows that are told for it."""
    if call.place not in FORMS:
        return False
    form = FORMS[call.place]
    if len(call.numbers) != form[0]:
        return False
    return form[1] is None or len(call.rows) == form[1]
