"""Terms, and the steps that are done in them."""
