"""A bench on which a term is worked, and the log of what was done on it."""
