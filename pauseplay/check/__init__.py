"""Claims, and whether papers show them."""
