"""Sides of a joined meadow."""
