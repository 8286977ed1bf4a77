"""How batches are told in an answer."""


def listed(batches):
    """How many batches there are, then their numbers."""
    return [len(batches)] + [batch.number for batch in batches]
