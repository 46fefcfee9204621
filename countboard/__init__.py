"""Counters on the lines of a reckoning board."""
