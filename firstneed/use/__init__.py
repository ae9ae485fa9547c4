"""What is done with books and programs: trees of looks, runs, and projects."""
