"""What is told for all terms of a book at once."""
