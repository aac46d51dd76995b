"""Errors, names, and the words of texts."""
