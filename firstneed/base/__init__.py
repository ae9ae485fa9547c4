"""Words, terms, and what is made of them."""
