"""Pieces of work: drawn out histories, the root's order, numerals, whole pieces."""
