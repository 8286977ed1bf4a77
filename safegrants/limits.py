"""The calls room and lack, places 12 and 13: how many copies of one kind could go out, or must come."""

from safegrants.amounts import added
from safegrants.ending import is_safe
from safegrants.granting import can_be_granted
from safegrants.refusals import NOT_SAFE, OUT_OF_RANGE, batch_refusal, is_batch_number, is_kind
from safegrants.state import find_batch, free_things

MOST_LACKING = 10000000000


def of_one_kind(state, j, n):
    """The list of kinds with n copies of kind j and none of the others."""
    return [n if k == j else 0 for k in range(len(state.totals))]


def greatest_that(most, holds):
    """The greatest number up to most for which it holds; it must hold for 0 and whenever it does for a greater one."""
    low = 0
    high = most
    while low < high:
        middle = (low + high + 1) // 2
        if holds(middle):
            low = middle
        else:
            high = middle - 1
    return low


def room_refusal(state, number, j):
    """The refusal that is due for the room that a batch has for kind j, or None."""
    if not is_batch_number(number) or not is_kind(state, j):
        return OUT_OF_RANGE
    refusal = batch_refusal(state, number)
    if refusal is None and not is_safe(state.totals, state.batches):
        return NOT_SAFE
    return refusal


def tell_room(state, number, j):
    """The greatest number of copies of kind j that the batch could be granted now."""
    refusal = room_refusal(state, number, j)
    if refusal is not None:
        return [refusal]
    batch = find_batch(state.batches, number)
    most = free_things(state.totals, state.batches)[j]
    # Beyond all its alternatives the batch can't end, so what's safe doesn't leave them.
    return [greatest_that(most, lambda n: can_be_granted(state, batch, of_one_kind(state, j, n)))]


def is_safe_with_more(state, j, n):
    """Whether the state is safe when there are n copies of kind j more."""
    return is_safe(added(state.totals, of_one_kind(state, j, n)), state.batches)


def tell_lack(state, j):
    """The least number of copies of kind j that there must be more for the state to be safe."""
    if not is_kind(state, j):
        return [OUT_OF_RANGE]
    if is_safe_with_more(state, j, 0):
        return [1, 0]
    least = greatest_that(MOST_LACKING, lambda n: not is_safe_with_more(state, j, n)) + 1
    if least > MOST_LACKING:
        return [0]
    return [1, least]
