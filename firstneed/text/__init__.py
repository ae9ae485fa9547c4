"""Texts of values, and a shell."""
