"""Calls that only ask, places 8 to 11 and 18 to 20. Each answers its list of numbers."""

from safegrants.amounts import added, within
from safegrants.ending import can_end, end_all, fits_alternative, locked_batches
from safegrants.listing import listed
from safegrants.refusals import BAD_ROW, are_batches, things_refusal
from safegrants.state import find_batch, free_things, with_more


def tell_safe(state):
    """An order in which all batches can be ended, or the stuck ones."""
    ending = end_all(state.totals, state.batches)
    if len(ending.left) == 0:
        return [1] + listed(ending.order)
    return [0] + listed(ending.left)


def tell_locked(state):
    """The batches of which none has what it asks for, with all that the others give back."""
    return listed(locked_batches(state.totals, state.batches))


def tell_free(state):
    """What's free, of each kind."""
    return free_things(state.totals, state.batches)


def tell_could(state, number, things):
    """Whether the batch could be granted the things, and if not, why."""
    refusal = things_refusal(state, number, things)
    if refusal is not None:
        return [refusal]
    batch = find_batch(state.batches, number)
    if not fits_alternative(batch, added(batch.held, things)):
        return [1]
    if not within(things, free_things(state.totals, state.batches)):
        return [2]
    stuck = end_all(state.totals, with_more(state.batches, batch, things)).left
    if len(stuck) == 0:
        return [0]
    return [3] + listed(stuck)


def tell_check(state, numbers):
    """Whether these batches can be ended in this order, beginning now, or the first that can't."""
    if not are_batches(state, numbers):
        return [BAD_ROW]
    free = free_things(state.totals, state.batches)
    for number in numbers:
        batch = find_batch(state.batches, number)
        if not can_end(batch, free):
            return [1, number]
        free = added(free, batch.held)
    return [0, len(numbers)]


def tell_blocks(state, numbers):
    """Whether none of these batches can end even when all others have ended."""
    if not are_batches(state, numbers):
        return [BAD_ROW]
    named = [find_batch(state.batches, number) for number in numbers]
    free = free_things(state.totals, named)
    if len(named) > 0 and not any([can_end(batch, free) for batch in named]):
        return [1]
    return [0]


def told_batch(batch):
    """A batch's number, alternatives, holdings and request."""
    numbers = [batch.number, len(batch.alternatives)]
    for alternative in batch.alternatives:
        numbers.extend(alternative)
    numbers.extend(batch.held)
    if batch.request is None:
        return numbers + [0]
    return numbers + [1, batch.request.number] + batch.request.things


def tell_all(state):
    """All that's kept: the kinds with their totals, and the batches."""
    numbers = [len(state.totals)] + state.totals + [len(state.batches)]
    for batch in state.batches:
        numbers.extend(told_batch(batch))
    return numbers
