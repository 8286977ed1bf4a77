"""The calls that change the works, places 0 to 7. Each answers its list of numbers."""

from safegrants.amounts import added, are_amounts, is_list_of_kinds, less, within
from safegrants.ending import fits_alternative, is_safe
from safegrants.granting import can_be_granted, let_wait, look_again
from safegrants.refusals import BAD_ROW, BATCH_EXISTS, NOT_FREE, OUT_OF_RANGE, TOO_MANY, WRONG_HOLDING, WRONG_WAITING
from safegrants.refusals import batch_refusal, copies_refusal, is_batch_number, things_refusal
from safegrants.state import Batch, find_batch, free_things, replaced, with_held, with_more, with_request, without

MOST_KINDS = 6
MOST_ALTERNATIVES = 4
MOST_BATCHES = 10


def begin(state, totals):
    """Start anew with these totals and no batches."""
    if len(totals) < 1 or len(totals) > MOST_KINDS or not are_amounts(totals):
        return [BAD_ROW]
    state.totals = totals
    state.batches = []
    state.waited = 0
    return [0]


def are_alternatives(state, rows):
    """Whether the rows may be a batch's alternatives."""
    if len(rows) < 1 or len(rows) > MOST_ALTERNATIVES:
        return False
    for row in rows:
        if not is_list_of_kinds(row, len(state.totals)) or not within(row, state.totals):
            return False
    return True


def new_batch_refusal(state, number, alternatives):
    """The refusal that is due for a new batch, or None."""
    if not is_batch_number(number):
        return OUT_OF_RANGE
    if not are_alternatives(state, alternatives):
        return BAD_ROW
    if find_batch(state.batches, number) is not None:
        return BATCH_EXISTS
    if len(state.batches) >= MOST_BATCHES:
        return TOO_MANY
    return None


def new_batch(state, number, alternatives):
    """Let a batch come, which holds nothing and waits for nothing."""
    refusal = new_batch_refusal(state, number, alternatives)
    if refusal is not None:
        return [refusal]
    nothing = [0 for total in state.totals]
    state.batches = state.batches + [Batch(number, alternatives, nothing, None)]
    return [0]


def ask_refusal(state, number, things):
    """The refusal that is due for a request, or None."""
    refusal = things_refusal(state, number, things)
    if refusal is not None:
        return refusal
    batch = find_batch(state.batches, number)
    if batch.request is not None:
        return WRONG_WAITING
    if not fits_alternative(batch, added(batch.held, things)):
        return WRONG_HOLDING
    return None


def ask(state, number, things):
    """Grant the request, or let the batch wait for it."""
    refusal = ask_refusal(state, number, things)
    if refusal is not None:
        return [refusal]
    batch = find_batch(state.batches, number)
    if can_be_granted(state, batch, things):
        state.batches = with_more(state.batches, batch, things)
        return [1]
    let_wait(state, batch, things)
    return [0]


def give_refusal(state, number, things):
    """The refusal that is due for things given by hand, or None."""
    refusal = things_refusal(state, number, things)
    if refusal is not None:
        return refusal
    batch = find_batch(state.batches, number)
    if not fits_alternative(batch, added(batch.held, things)):
        return WRONG_HOLDING
    if not within(things, free_things(state.totals, state.batches)):
        return NOT_FREE
    return None


def give(state, number, things):
    """Give the things, whether that's safe or not; a request goes on waiting."""
    refusal = give_refusal(state, number, things)
    if refusal is not None:
        return [refusal]
    state.batches = with_more(state.batches, find_batch(state.batches, number), things)
    return [1 if is_safe(state.totals, state.batches) else 0]


def back_refusal(state, number, things):
    """The refusal that is due for things given back, or None."""
    refusal = things_refusal(state, number, things)
    if refusal is not None:
        return refusal
    if not within(things, find_batch(state.batches, number).held):
        return WRONG_HOLDING
    return None


def back(state, number, things):
    """Take the things back, then look at requests again."""
    refusal = back_refusal(state, number, things)
    if refusal is not None:
        return [refusal]
    batch = find_batch(state.batches, number)
    state.batches = replaced(state.batches, with_held(batch, less(batch.held, things)))
    return look_again(state)


def end(state, number):
    """Let the batch go with all it holds and waits for, then look at requests again."""
    refusal = batch_refusal(state, number)
    if refusal is not None:
        return [refusal]
    state.batches = without(state.batches, number)
    return look_again(state)


def drop(state, number):
    """Let the batch wait no longer."""
    refusal = batch_refusal(state, number)
    if refusal is not None:
        return [refusal]
    batch = find_batch(state.batches, number)
    if batch.request is None:
        return [WRONG_WAITING]
    state.batches = replaced(state.batches, with_request(batch, None))
    return [0]


def more(state, j, n):
    """Add n copies of kind j, then look at requests again."""
    refusal = copies_refusal(state, j, n)
    if refusal is not None:
        return [refusal]
    totals = list(state.totals)
    totals[j] = totals[j] + n
    state.totals = totals
    return look_again(state)
