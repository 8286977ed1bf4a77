"""Which batches can be brought to their end, and in which order."""

from safegrants.amounts import added, less, within
from safegrants.state import free_things, without


class Ending:
    """The batches that could be ended, in the order of their ends, and those left."""

    def __init__(self, order, left):
        self.order = order
        self.left = left


def fits_alternative(batch, held):
    """Whether these holdings are within one of the batch's alternatives."""
    for alternative in batch.alternatives:
        if within(held, alternative):
            return True
    return False


def lacking(batch):
    """What's lacking of each of the batch's alternatives that counts."""
    # An alternative that what's held has outgrown can't be reached by getting more.
    counts = [alternative for alternative in batch.alternatives if within(batch.held, alternative)]
    return [less(alternative, batch.held) for alternative in counts]


def one_is_within(lists, free):
    """Whether one of these lists is within these things."""
    for things in lists:
        if within(things, free):
            return True
    return False


def can_end(batch, free):
    """Whether the batch can end with these things free."""
    return one_is_within(lacking(batch), free)


def goes_on(batch, free):
    """Whether the batch lacks nothing that it asks for now."""
    return batch.request is None or within(batch.request.things, free)


def first_that(batches, free, may_leave):
    """The first batch that may leave with these things free, or None."""
    for batch in batches:
        if may_leave(batch, free):
            return batch
    return None


def run_down(totals, batches, may_leave):
    """Let batches leave one by one, always the first that may; each gives back all it holds."""
    free = free_things(totals, batches)
    order = []
    left = list(batches)
    batch = first_that(left, free, may_leave)
    while batch is not None:
        order.append(batch)
        left = without(left, batch.number)
        free = added(free, batch.held)
        batch = first_that(left, free, may_leave)
    return Ending(order, left)


def end_all(totals, batches):
    """End the batches as far as they can be; those left are stuck."""
    return run_down(totals, batches, can_end)


def is_safe(totals, batches):
    """Whether all batches can be ended one after another."""
    return len(end_all(totals, batches).left) == 0


def locked_batches(totals, batches):
    """The batches that are left when whoever goes on has gone on and ended."""
    return run_down(totals, batches, goes_on).left
