"""Walks through a term, the machine that goes along them, and the reader of last forms."""
