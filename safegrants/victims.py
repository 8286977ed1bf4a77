"""The calls victims and cheapest, places 14 and 15: which batches must go for the state to be safe."""

from safegrants.amounts import are_amounts
from safegrants.groups import has_batch, ways_by_group
from safegrants.refusals import BAD_ROW, are_batches


def told_loss(batches, group, costs):
    """What it costs when this group alone is left, then the batches that are gone, listed."""
    gone = [batches[k].number for k in range(len(batches)) if not has_batch(group, k)]
    return [sum([costs.get(number, 0) for number in gone]), len(gone)] + gone


def least_loss(state, costs):
    """The least sum of costs of batches without which the state is safe, then these batches, listed.

    Losses are compared as they are told: the cost, then how many are gone, then their numbers.
    """
    rising = sorted(state.batches, key=lambda batch: batch.number)
    ways = ways_by_group(state.totals, rising)
    return min([told_loss(rising, group, costs) for group in range(len(ways)) if ways[group] > 0])


def tell_victims(state):
    """The fewest batches without which the state is safe."""
    # Where nothing costs anything, the fewest are the cheapest.
    return least_loss(state, {})[1:]


def tell_cheapest(state, row):
    """The cheapest batches without which the state is safe, and what they cost."""
    if len(row) % 2 != 0:
        return [BAD_ROW]
    numbers = [row[k] for k in range(0, len(row), 2)]
    prices = [row[k] for k in range(1, len(row), 2)]
    if not are_batches(state, numbers) or not are_amounts(prices):
        return [BAD_ROW]
    return least_loss(state, dict(zip(numbers, prices)))
