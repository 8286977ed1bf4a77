"""Requests: whether they can be granted, how they wait, and how they're looked at again."""

from safegrants.amounts import within
from safegrants.ending import is_safe
from safegrants.listing import listed
from safegrants.state import Request, free_things, replaced, with_more, with_request


def can_be_granted(state, batch, things):
    """Whether the things are free and all batches can still end when this one has them."""
    if not within(things, free_things(state.totals, state.batches)):
        return False
    return is_safe(state.totals, with_more(state.batches, batch, things))


def let_wait(state, batch, things):
    """Keep the request, behind all that have waited since begin."""
    request = Request(state.waited, things)
    state.waited = state.waited + 1
    state.batches = replaced(state.batches, with_request(batch, request))


def waiting_batches(state):
    """The batches that wait, in the order in which their requests came."""
    waiting = [batch for batch in state.batches if batch.request is not None]
    return sorted(waiting, key=lambda batch: batch.request.number)


def look_again(state):
    """Grant, in one walk, each waiting request that can be granted when its turn comes."""
    granted = []
    for batch in waiting_batches(state):
        if can_be_granted(state, batch, batch.request.things):
            ready = with_request(batch, None)
            state.batches = with_more(state.batches, ready, batch.request.things)
            granted.append(batch)
    return [0] + listed(granted)
