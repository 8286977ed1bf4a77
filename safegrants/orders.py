"""The calls orders and order, places 16 and 17: all the orders in which the batches can be ended."""

from safegrants.amounts import added
from safegrants.ending import lacking
from safegrants.groups import next_ends, ways_by_group, without_batch
from safegrants.refusals import NO_SUCH_ORDER, OUT_OF_RANGE
from safegrants.state import free_things

MOST_PLACE = 1000000000


def count_orders(state):
    """In how many orders all batches can be ended."""
    ways = ways_by_group(state.totals, state.batches)
    return [ways[len(ways) - 1]]


def orders_ahead(ends, k):
    """How many steps, and how many orders that begin with them, stand wholly ahead of the k-th order."""
    steps = 0
    ahead = 0
    while ahead + ends[steps][1] <= k:
        ahead = ahead + ends[steps][1]
        steps = steps + 1
    return (steps, ahead)


def order_at(state, ways, k):
    """The batches' numbers in the k-th order, of which there must be more than k."""
    lacks = [lacking(batch) for batch in state.batches]
    free = free_things(state.totals, state.batches)
    group = len(ways) - 1
    order = []
    while group != 0:
        ends = next_ends(group, free, lacks, ways)
        passed = orders_ahead(ends, k)
        k = k - passed[1]
        chosen = ends[passed[0]][0]
        order.append(state.batches[chosen].number)
        free = added(free, state.batches[chosen].held)
        group = without_batch(group, chosen)
    return order


def tell_order(state, k):
    """The batches in the k-th order in which all can be ended."""
    if k < 0 or k > MOST_PLACE:
        return [OUT_OF_RANGE]
    ways = ways_by_group(state.totals, state.batches)
    if ways[len(ways) - 1] <= k:
        return [NO_SUCH_ORDER]
    return order_at(state, ways, k)
