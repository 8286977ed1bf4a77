"""Lists of kinds: one number for each kind of thing, in the kinds' order."""

MOST_COPIES = 1000000000


def are_amounts(row):
    """Whether each number of the row may be a number of copies."""
    for number in row:
        if number < 0 or number > MOST_COPIES:
            return False
    return True


def is_list_of_kinds(row, kinds):
    """Whether the row has one number of copies for each of so many kinds."""
    return len(row) == kinds and are_amounts(row)


def within(some, others):
    """Whether each number of the one list is at most the other's there."""
    for j in range(len(some)):
        if some[j] > others[j]:
            return False
    return True


def added(some, others):
    """The sum of two lists, kind by kind."""
    return [some[j] + others[j] for j in range(len(some))]


def less(some, others):
    """The first list less the second, kind by kind."""
    return [some[j] - others[j] for j in range(len(some))]
