"""The refusals' numbers, and the ones that several calls have in common.

A function that finds a refusal answers its number, or None if none is due. It asks
in the order in which the document tells the refusals, since the first is answered.
"""

from safegrants.amounts import MOST_COPIES, is_list_of_kinds
from safegrants.state import find_batch

UNKNOWN_FORM = -9
OUT_OF_RANGE = -1
NO_SUCH_BATCH = -10
NO_SUCH_ORDER = -10
BAD_ROW = -2
BATCH_EXISTS = -3
WRONG_WAITING = -7
WRONG_HOLDING = -4
NOT_FREE = -5
TOO_MANY = -6
NOT_SAFE = -8

MOST_BATCH_NUMBER = 1000000000


def is_batch_number(number):
    """Whether a batch may have this number."""
    return 1 <= number <= MOST_BATCH_NUMBER


def is_kind(state, j):
    """Whether there's a kind of this number."""
    return 0 <= j < len(state.totals)


def are_batches(state, numbers):
    """Whether all of these are numbers of batches that are there, each once at most."""
    seen = {}
    for number in numbers:
        if number in seen or find_batch(state.batches, number) is None:
            return False
        seen[number] = True
    return True


def batch_refusal(state, number):
    """The refusal that is due if the first row doesn't tell a batch that's there."""
    if not is_batch_number(number):
        return OUT_OF_RANGE
    if find_batch(state.batches, number) is None:
        return NO_SUCH_BATCH
    return None


def things_refusal(state, number, things):
    """The refusal that is due for a batch's number with a list of kinds behind it."""
    refusal = batch_refusal(state, number)
    if refusal is None and not is_list_of_kinds(things, len(state.totals)):
        return BAD_ROW
    return refusal


def copies_refusal(state, j, n):
    """The refusal that is due for n copies more of kind j."""
    if not is_kind(state, j) or n < 1 or n > MOST_COPIES:
        return OUT_OF_RANGE
    if state.totals[j] + n > MOST_COPIES:
        return TOO_MANY
    return None
