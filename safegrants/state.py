"""What a works keeps: its totals, its batches and the requests that wait.

A batch and a request are never altered once they are made: a change puts another
one in their place. So a change can be tried on a list of batches and thrown away.
"""

from safegrants.amounts import added, less


class Request:
    """What a batch waits for; the number tells how early it came since begin."""

    def __init__(self, number, things):
        self.number = number
        self.things = things


class Batch:
    """A batch: its number, its alternatives, what it holds, its request or None."""

    def __init__(self, number, alternatives, held, request):
        self.number = number
        self.alternatives = alternatives
        self.held = held
        self.request = request


class State:
    """A works before its first call: no kinds, no batches."""

    def __init__(self):
        self.totals = []
        self.batches = []
        self.waited = 0


def find_batch(batches, number):
    """The batch of that number, or None."""
    for batch in batches:
        if batch.number == number:
            return batch
    return None


def without(batches, number):
    """The batches but the one of that number, in their order."""
    return [batch for batch in batches if batch.number != number]


def replaced(batches, changed):
    """The batches in their order, with the changed one in the place of its number."""
    return [changed if batch.number == changed.number else batch for batch in batches]


def with_held(batch, held):
    """The batch as it is when it holds these things."""
    return Batch(batch.number, batch.alternatives, held, batch.request)


def with_request(batch, request):
    """The batch as it is when it waits for this request, or for nothing if None."""
    return Batch(batch.number, batch.alternatives, batch.held, request)


def free_things(totals, batches):
    """Of each kind, the total less what all batches hold."""
    free = list(totals)
    for batch in batches:
        free = less(free, batch.held)
    return free


def with_more(batches, batch, things):
    """The batches as they are when this one holds so much more."""
    return replaced(batches, with_held(batch, added(batch.held, things)))
