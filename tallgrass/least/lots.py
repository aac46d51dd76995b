"""Lots: notes that cannot all be true, while any of them can be left out to make the others true."""

from tallgrass.notes.book import Book
from tallgrass.sweep.papers import some_day_fits


def lot(book):
    """The lot that is left if needless notes are left out from the first one on, or None if some day fits."""
    if some_day_fits(book):
        return None
    left = list(book.notes)
    for note in book.notes:
        rest = without(left, [note])
        if not can_be_true(book, rest):
            left = rest
    return left


def is_lot(book, notes):
    """Whether the notes are a lot of the book, in any order."""
    if not are_different_notes(book, notes) or can_be_true(book, notes):
        return False
    return all([can_be_true(book, without(notes, [note])) for note in notes])


def are_different_notes(book, notes):
    """Whether each tuple is a note of the book, as the book has it, and stands once."""
    return all([note in book.notes for note in notes]) and len(set(notes)) == len(notes)


def can_be_true(book, notes):
    """Whether some day fits the meadow and the homes of the book with these notes alone."""
    return some_day_fits(Book.made(book.meadow, book.homes(), notes))


def without(notes, struck):
    return [note for note in notes if note not in struck]
