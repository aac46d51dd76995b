"""The fewest notes that must be struck so that some day fits."""

from tallgrass.base.checks import check_count
from tallgrass.base.choices import choices
from tallgrass.base.errors import Clash
from tallgrass.closing.closure import check_small
from tallgrass.least.lots import are_different_notes, is_lot, lot, without
from tallgrass.notes.book import Book
from tallgrass.sweep.papers import day_for

MOST_NOTES_STRUCK = 7


def fewest_strikes(book):
    """The notes to strike, a day that fits without them, and lots that show that fewer are not enough."""
    check_book(book)
    count = 0
    found = least_struck(book, count)
    # It ends, because some day fits the book without any of its notes.
    while found is None:
        count += 1
        found = least_struck(book, count)
    struck, day = found
    return (struck, day, lots_against_fewer(book, count))


def judge_strikes(book, struck, day, lots):
    """Whether some day fits without the struck notes, and the lots show that fewer are not enough."""
    if day.meadow != book.meadow:
        raise Clash()
    check_book(book)
    if not are_different_notes(book, struck) or not book_without(book, struck).fits(day):
        return False
    if not all([is_lot(book, notes) for notes in lots]):
        return False
    return all([some_stands_against(lots, fewer) for fewer in sets_of_fewer(book, len(struck))])


def check_book(book):
    check_small(book.meadow)
    check_count(len(book), MOST_NOTES_STRUCK)


def book_without(book, struck):
    return Book.made(book.meadow, book.homes(), without(book.notes, struck))


def least_struck(book, count):
    """The least list of so many notes without which some day fits, and such a day; or None."""
    for struck in choices(book.notes, count):
        day = day_for(book_without(book, struck))
        if day is not None:
            return (list(struck), day)
    return None


def sets_of_fewer(book, count):
    """All sets of one note fewer than the count; each smaller set is part of one of them."""
    if count == 0:
        return []
    return choices(book.notes, count - 1)


def some_stands_against(lots, fewer):
    """Whether striking these notes leaves some lot as it is."""
    return any([len(without(notes, fewer)) == len(notes) for notes in lots])


def lots_against_fewer(book, count):
    lots = []
    for fewer in sets_of_fewer(book, count):
        if not some_stands_against(lots, fewer):
            lots.append(lot(book_without(book, fewer)))
    return lots
