"""Groups of batches: in how many orders each can be ended when all other batches are gone.

A group is told by a number, in which bit k tells whether the k-th batch is left. So the
numbers go from 0 (none is left) up, and a group without one of its batches has a smaller
number: what's found out of it is known already when the group's turn comes.
"""

from safegrants.amounts import less
from safegrants.ending import lacking, one_is_within


def has_batch(group, k):
    """Whether the k-th batch is in the group."""
    return (group >> k) & 1 == 1


def without_batch(group, k):
    """The group when its k-th batch has ended."""
    return group - (1 << k)


def free_by_group(totals, batches):
    """For each group, what's free when it alone is left."""
    frees = [totals]
    for batch in batches:
        frees = frees + [less(free, batch.held) for free in frees]
    return frees


def next_ends(group, free, lacks, ways):
    """Who of the group can end next, each with the number of orders in which the rest can be ended then."""
    found = []
    for k in range(len(lacks)):
        if has_batch(group, k) and one_is_within(lacks[k], free):
            found.append((k, ways[without_batch(group, k)]))
    return found


def ways_by_group(totals, batches):
    """For each group, in how many orders it can be ended when all others are gone."""
    lacks = [lacking(batch) for batch in batches]
    frees = free_by_group(totals, batches)
    ways = [1]
    for group in range(1, len(frees)):
        ends = next_ends(group, frees[group], lacks, ways)
        ways.append(sum([step[1] for step in ends]))
    return ways
