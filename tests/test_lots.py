"""Lots: point 47, and tallgrass/least/lots.py."""

import itertools
import random
import unittest

from helpers import GrassCase, line_meadow, small_meadows
from samples import all_sampled, random_books
from tallgrass.field.meadow import OLD
from tallgrass.least.lots import is_lot, lot
from tallgrass.notes.book import Book
from tallgrass.sweep.papers import some_day_fits
from test_sweep import LARGE

MEADOW = line_meadow(3)
HOMES = {"r": "a", "s": "c"}
FREE = Book(MEADOW, HOMES)
UNTOUCHED = ("shows", "p", (OLD,))
ON = ("on", "r", "p", 1)
AT = ("at", "r", "b", 2)
FAR = ("start", "r", ("c",))
BOOK = FREE + UNTOUCHED + ON + AT + FAR + ("start", "s", ("c",))


def fits(book, notes):
    return some_day_fits(Book(book.meadow, book.homes(), *notes))


def is_lot_by_words(book, notes):
    return (all(note in book.notes for note in notes) and len(notes) == len(set(notes)) and not fits(book, notes)
            and all(fits(book, [note for note in notes if note != left_out]) for left_out in notes))


def lot_by_words(book):
    """All notes without those that are left out one by one, ascending; or None."""
    if some_day_fits(book):
        return None
    notes = list(book.notes)
    for note in book.notes:
        notes.remove(note)
        if fits(book, notes):
            notes.append(note)
    return sorted(notes)


class Lots(GrassCase):
    def test_ordinary(self):
        self.assertEqual(lot(FREE + UNTOUCHED + ON), [ON, UNTOUCHED])
        self.assertEqual(lot(BOOK), [UNTOUCHED, FAR])
        self.assertEqual(lot(BOOK - FAR), [ON, UNTOUCHED])
        self.assertEqual(lot(FREE + ("start", "r", [])), [("start", "r", ())])

    def test_some_day_fits(self):
        self.assertIsNone(lot(FREE))
        self.assertIsNone(lot(BOOK - UNTOUCHED))

    def test_what_is_left_out(self):
        twins = FREE + ("start", "r", []) + ("shows", "p", [])
        self.assertEqual(lot(twins), [("start", "r", ())])
        three = FREE + ("start", "r", ["a"]) + ("start", "r", ["b"]) + ("start", "r", ["c"])
        self.assertEqual(lot(three), [("start", "r", ("b",)), ("start", "r", ("c",))])

    def test_random_books(self):
        seen = []
        for book in [pair[0] for pair in all_sampled()] + random_books(LARGE, 20, 20):
            found = lot(book)
            self.assertEqual(found, lot_by_words(book))
            if found is not None:
                self.assertIsInstance(found, list)
                self.assertTrue(is_lot(book, found))
                seen.append(len(found))
        self.assertGreater(len(set(seen)), 2)

    def test_what_is_returned_is_new(self):
        lot(BOOK).clear()
        self.assertEqual(len(lot(BOOK)), 2)


class IsLot(GrassCase):
    def test_any_order(self):
        self.assertIs(is_lot(BOOK, [ON, UNTOUCHED]), True)
        self.assertIs(is_lot(BOOK, (UNTOUCHED, ON)), True)
        self.assertTrue(is_lot(BOOK, [FAR, UNTOUCHED]))
        self.assertTrue(is_lot(BOOK, [AT, UNTOUCHED]))

    def test_too_many_and_too_few(self):
        for notes in ([], [UNTOUCHED], [ON], [ON, UNTOUCHED, AT], [ON, UNTOUCHED, ("start", "s", ("c",))], list(BOOK),
                      [ON, AT, FAR], [ON, AT]):
            self.assertIs(is_lot(BOOK, notes), False)
        self.assertFalse(is_lot(FREE, []))

    def test_twice(self):
        self.assertFalse(is_lot(BOOK, [ON, UNTOUCHED, ON]))
        self.assertFalse(is_lot(BOOK, [UNTOUCHED, UNTOUCHED]))
        never = FREE + ("start", "r", [])
        self.assertTrue(is_lot(never, [("start", "r", ())]))
        self.assertFalse(is_lot(never, [("start", "r", ()), ("start", "r", ())]))

    def test_another_spelling(self):
        self.assertFalse(is_lot(BOOK, [ON, ("shows", "p", (OLD, OLD))]))
        self.assertFalse(is_lot(BOOK, [ON, ("shows", "p", [OLD])]))
        both = FREE + ("start", "r", ["a", "b"]) + ("start", "r", ["c"])
        self.assertTrue(is_lot(both, [("start", "r", ("c",)), ("start", "r", ("a", "b"))]))
        self.assertFalse(is_lot(both, [("start", "r", ("c",)), ("start", "r", ("b", "a"))]))

    def test_notes_of_another_book(self):
        self.assertFalse(is_lot(BOOK, [("start", "r", ())]))
        self.assertFalse(is_lot(BOOK, [ON, UNTOUCHED, ("at", "r", "a", 1)]))
        for thing in ((), ("at",), ("x", "y"), ("at", "r", "zz", 9)):
            self.assertFalse(is_lot(BOOK, [thing]))
            self.assertFalse(is_lot(BOOK, [ON, UNTOUCHED, thing]))

    def test_all_lists_of_random_books(self):
        rng = random.Random(51)
        lots = 0
        for book in [one for at in (1, 2, 3) for one in random_books(small_meadows()[at], 20, 6, seed=4)]:
            for count in range(len(book) + 1):
                for notes in itertools.combinations(book.notes, count):
                    shuffled = rng.sample(notes, count)
                    self.assertIs(is_lot(book, shuffled), is_lot_by_words(book, shuffled))
                    lots += is_lot(book, notes)
        self.assertGreater(lots, 10)


if __name__ == "__main__":
    unittest.main()
