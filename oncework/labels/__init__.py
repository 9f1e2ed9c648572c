"""Names of parts and steps, and lots of names."""
