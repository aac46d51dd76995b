"""What books imply of one another, and which of their notes are needless."""

from tallgrass.base.checks import MOST_ASKED, check_count
from tallgrass.base.errors import Clash
from tallgrass.notes.kinds import opposite
from tallgrass.sweep.papers import day_for, some_day_fits


def check_books(book, other):
    if book.meadow != other.meadow or book.homes() != other.homes():
        raise Clash()
    check_count(max(len(book), len(other)), MOST_ASKED)


def implies(book, other):
    """Whether every day that fits the book fits the other one."""
    check_books(book, other)
    return all([is_implied(book, note) for note in other.notes])


def is_implied(book, note):
    """Whether the note holds in every day that fits the book."""
    return not some_day_fits(book + opposite(book.meadow, note))


def same_days(book, other):
    return implies(book, other) and implies(other, book)


def parting_day(book, other):
    """A day that fits the book and does not fit the other one, or None."""
    check_books(book, other)
    for note in other.notes:
        day = day_for(book + opposite(book.meadow, note))
        if day is not None:
            return day
    return None


def needless(book):
    """The notes each of which the book without it implies."""
    check_count(len(book), MOST_ASKED)
    return [note for note in book.notes if is_needless(book, note)]


def is_needless(book, note):
    return is_implied(book - note, note)


def thinned(book):
    """The book without needless notes that is left if they are left out from the last one on."""
    check_count(len(book), MOST_ASKED)
    left = book
    for note in reversed(book.notes):
        if is_needless(left, note):
            left = left - note
    return left
