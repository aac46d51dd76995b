"""What books imply: point 44, and tallgrass/closing/implied.py."""

import random
import unittest

from helpers import GrassCase, line_meadow
from samples import all_sampled, fitting, random_note, sampled
from tallgrass.base.errors import Clash, TooMany
from tallgrass.closing.implied import implies, needless, parting_day, same_days, thinned
from tallgrass.field.meadow import OLD
from tallgrass.notes.book import Book
from tallgrass.sweep.papers import some_day_fits
from test_answers import HOURS, MORE

MEADOW = line_meadow(3)
HOMES = {"r": "a", "s": "c"}
FREE = Book(MEADOW, HOMES)
NONE = Book(MEADOW, HOMES, ("start", "r", []))
TO_A = ("shows", "p", ((2, "r", "p", "a"),))
SIXTEEN = Book(MEADOW, HOMES, *HOURS, *MORE[:4])
SEVENTEEN = SIXTEEN + MORE[4]


def with_further_notes(book, rng):
    """Another book with the same homes."""
    notes = rng.sample(book.notes, rng.randint(0, len(book))) + [random_note(book.meadow, rng) for _ in range(rng.randint(0, 2))]
    return Book(book.meadow, book.homes(), *notes)


class Implied(GrassCase):
    def test_ordinary(self):
        book, other = FREE + TO_A, FREE + ("on", "r", "p", 2) + ("at", "r", "b", 1)
        self.assertIs(implies(book, other), True)
        self.assertIs(implies(other, book), False)
        self.assertIs(same_days(book, other), False)
        self.assertIs(same_days(book, book + ("on", "r", "p", 1)), True)
        self.assertIsNone(parting_day(book, other))
        day = parting_day(other, book)
        self.assertTrue(other.fits(day))
        self.assertFalse(book.fits(day))
        self.assertTrue(implies(book, FREE) and implies(FREE, FREE))
        self.assertFalse(implies(FREE, book))

    def test_no_day(self):
        other = FREE + TO_A
        self.assertTrue(implies(NONE, other) and implies(NONE, FREE) and not implies(other, NONE))
        self.assertIsNone(parting_day(NONE, other))
        self.assertTrue(other.fits(parting_day(other, NONE)))
        self.assertTrue(same_days(NONE, FREE + ("shows", "p", [])))
        self.assertFalse(same_days(NONE, FREE))

    def test_all_days_with_few_goings(self):
        rng = random.Random(31)
        found = []
        for at in range(4):
            for book, days in sampled(at):
                for _ in range(3):
                    other = with_further_notes(book, rng)
                    found.append(self.check_books(book, other, days, fitting(at, other)))
        for answer in (True, False):
            self.assertGreater(found.count(answer), 50)

    def check_books(self, book, other, days, other_days):
        day = parting_day(book, other)
        self.assertIs(implies(book, other), day is None)
        if day is None:
            self.assertTrue(all(other.fits(found) for found in days))
        else:
            self.assertTrue(book.fits(day) and not other.fits(day))
        same = implies(book, other) and implies(other, book)
        self.assertIs(same_days(book, other), same)
        self.assertIs(same_days(other, book), same)
        if same:
            self.assertEqual(days, other_days)
        return implies(book, other)

    def test_clash(self):
        for call in (implies, parting_day, same_days):
            for other in (Book(line_meadow(2), HOMES), Book(MEADOW, {"r": "a", "s": "b"}),
                          Book(MEADOW, {"r": "b", "s": "c"}, *SEVENTEEN.notes)):
                self.check_error(Clash, None, call, FREE, other)
                self.check_error(Clash, None, call, other, SEVENTEEN)
            self.check_error(TooMany, 16, call, SEVENTEEN, FREE)
            self.check_error(TooMany, 16, call, FREE, SEVENTEEN)
            self.check_error(TooMany, 16, call, NONE, SEVENTEEN)
            call(SIXTEEN, FREE)
            call(FREE, SIXTEEN)
            call(SIXTEEN, SIXTEEN)

    def test_too_many(self):
        for call in (needless, thinned):
            self.check_error(TooMany, 16, call, SEVENTEEN)
            call(SIXTEEN)
        self.assertEqual(needless(SIXTEEN)[0], MORE[0])

    def test_needless(self):
        self.assertEqual(needless(FREE), [])
        book = FREE + TO_A + ("on", "r", "p", 2) + ("on", "r", "p", 1) + ("off", "s", "q", 3)
        self.assertEqual(needless(book), [("on", "r", "p", 1), ("on", "r", "p", 2)])
        self.assertEqual(needless(FREE + ("on", "r", "p", 2) + ("on", "r", "p", 1)), [("on", "r", "p", 1)])
        self.assertEqual(needless(FREE + ("start", "r", ["a", "b", "c"])), [("start", "r", ("a", "b", "c"))])
        self.assertEqual(needless(NONE), [])
        self.assertEqual(needless(NONE + ("shows", "p", [])), [("shows", "p", ()), ("start", "r", ())])

    def test_each_alone_is_needless_but_not_both(self):
        only_r = ("shows", "p", [(1, "r", "p", "a"), (1, "r", "p", "b")])
        first, second = ("shows", "q", [OLD]), ("off", "s", "q", 1)
        book = FREE + only_r + first + second
        self.assertEqual(needless(book), [("off", "s", "q", 1)])
        twins = FREE + ("on", "r", "p", 1) + ("at", "r", "b", 1)
        self.assertEqual(needless(twins), [("at", "r", "b", 1), ("on", "r", "p", 1)])
        self.assertEqual(thinned(twins).notes, (("at", "r", "b", 1),))
        self.assertEqual(thinned(NONE + ("shows", "p", [])).notes, (("shows", "p", ()),))

    def test_thinned(self):
        book = FREE + TO_A + ("on", "r", "p", 2) + ("on", "r", "p", 1) + ("off", "s", "q", 3)
        self.assertEqual(thinned(book), FREE + TO_A + ("off", "s", "q", 3))
        self.assertEqual(thinned(FREE), FREE)
        self.assertIsInstance(thinned(FREE), Book)
        self.assertEqual(thinned(NONE), NONE)

    def test_random_books(self):
        seen = 0
        for book, _ in all_sampled():
            expected = [note for note in book.notes if implies(book - note, book)]
            self.assertEqual(needless(book), expected)
            seen += len(expected)
            left = thinned(book)
            self.assertEqual(left, self.thinned_by_words(book))
            self.assertEqual(needless(left), [])
            self.assertTrue(same_days(left, book))
            self.assertEqual(left.homes(), book.homes())
            self.assertIs(some_day_fits(left), some_day_fits(book))
        self.assertGreater(seen, 20)

    def thinned_by_words(self, book):
        left = book
        for note in book.notes[::-1]:
            if note in needless(left):
                left = left - note
        return left

    def test_needless_in_all_days_with_few_goings(self):
        for at in range(4):
            for book, days in sampled(at):
                for note in needless(book):
                    self.assertEqual(fitting(at, book - note), days)

    def test_what_is_returned_is_new(self):
        book = FREE + ("start", "r", ["a", "b", "c"])
        needless(book).clear()
        self.assertEqual(len(needless(book)), 1)
        self.assertEqual(len(book), 1)


if __name__ == "__main__":
    unittest.main()
