"""Firstneed: what must be worked out, whatever the rest turns out to be."""
