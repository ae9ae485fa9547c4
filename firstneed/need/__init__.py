"""What is needed, told for one term at a time."""
