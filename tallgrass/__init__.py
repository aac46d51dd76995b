"""Tallgrass: what the last marks in a meadow tell about the day."""
