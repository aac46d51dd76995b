"""Lots, fewest strikes, shortest days, and who can have gone alone."""
