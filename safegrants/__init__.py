"""Claims and grants: a thing is granted only if all batches can still end behind it."""
