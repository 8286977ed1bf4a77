"""The calls that only ask, from place 8 on. Each answers its list of numbers."""

from safegrants.ending import end_all, locked_batches
from safegrants.listing import listed
from safegrants.state import free_things


def tell_safe(state):
    """An order in which all batches can be ended, or the stuck ones."""
    ending = end_all(state.totals, state.batches)
    if len(ending.left) == 0:
        return [1] + listed(ending.order)
    return [0] + listed(ending.left)


def tell_locked(state):
    """The batches of which none has what it asks for, with all that the others give back."""
    return listed(locked_batches(state.totals, state.batches))


def tell_free(state):
    """What's free, of each kind."""
    return free_things(state.totals, state.batches)
