"""The two papers: points 28, 29 and 31, and tallgrass/sweep/papers.py."""

import unittest

from helpers import GrassCase, all_days, line_meadow, small_meadows
from samples import random_books
from tallgrass.field.days import Day
from tallgrass.field.meadow import OLD, Meadow
from tallgrass.notes.book import Book, exact_book
from tallgrass.sweep.judging import bars
from tallgrass.sweep.papers import ceiling_for, day_for, failing, some_day_fits
from tallgrass.sweep.sweeping import sweep
from test_sweep import LARGE

HOMES = {"r": "a", "s": "c"}


def expected_failing(book):
    """What does not hold, by the words of point 28."""
    swept = sweep(book)
    notes = []
    for note in book.notes:
        if (note[0] == "away" and note[2] == book.home(note[1])
                or note[0] == "at" and note[2] not in swept.reach(note[1], note[3])
                or note[0] == "on" and not (swept.passable(*note[1:]) and set(book.meadow.ends(note[2]))
                                            & set(swept.reach(note[1], note[3])))):
            notes.append(("note", note))
    signs = [("sign", sign) for sign, *_ in book.meadow.signs if book.must(sign) and swept.late(sign) == 0]
    walkers = [("walker", walker) for walker in book.meadow.walkers
               if not set(book.may_start(walker)) & set(swept.reach(walker, 1))]
    return notes + signs + walkers


class Papers(GrassCase):
    def check_book(self, book):
        """Just one of the two papers is there, and it is what it should be."""
        self.assertEqual(failing(book), expected_failing(book))
        self.assertIs(some_day_fits(book), failing(book) == [])
        day, table = day_for(book), ceiling_for(book)
        self.assertIs(day is None, table is not None)
        self.assertIs(day is not None, some_day_fits(book))
        if day is not None:
            self.assertIsInstance(day, Day)
            self.check_day(book, day)
        else:
            self.assertTrue(bars(book, table))
            self.assertEqual(sorted(table), [sign for sign, *_ in book.meadow.signs])

    def check_day(self, book, day):
        self.assertEqual(book.broken(day), [])
        self.assertTrue(book.fits(day))
        for sign, late in sweep(book).lates().items():
            self.assertEqual(day.shown(sign)[0], late)
            self.assertIs(day.last(sign) >= 0, late >= 1)

    def test_all_days_with_few_goings(self):
        for meadow, most in zip(small_meadows(), (4, 3, 3, 3)):
            days = all_days(meadow, most)
            by_homes = {}
            for day in days:
                by_homes.setdefault(tuple(day.homes().values()), []).append(day)
            fitting = 0
            for book in random_books(meadow, 60, 7):
                self.check_book(book)
                near = by_homes[tuple(book.homes().values())]
                fitting += self.check_days(book, [day for day in near if book.fits(day)])
            self.assertGreater(fitting, 0)

    def check_days(self, book, days):
        """What each of these days that fit tells about the book; returns how many there are."""
        if days:
            self.assertTrue(some_day_fits(book))
        swept = sweep(book)
        for day in days:
            for sign, late in swept.lates().items():
                self.assertLessEqual(day.shown(sign)[0], late)
            for walker in book.meadow.walkers:
                self.assertIn(day.start(walker), book.may_start(walker))
                for hour in range(1, book.meadow.hours + 1):
                    self.assertLessEqual(set(day.where(walker, hour)), set(swept.reach(walker, hour)))
        return len(days)

    def test_both_answers_are_frequent(self):
        found = [some_day_fits(book) for meadow in small_meadows() for book in random_books(meadow, 60, 7)]
        self.assertGreater(min(found.count(True), found.count(False)), 30)

    def test_larger_books(self):
        for most in (3, 9, 20):
            for book in random_books(LARGE, 30, most):
                self.check_book(book)

    def test_exact_books(self):
        for meadow in small_meadows():
            for day in all_days(meadow, 2)[::3]:
                self.assertTrue(some_day_fits(exact_book(day)))
                self.check_book(exact_book(day))

    def test_a_full_book(self):
        meadow = line_meadow(6)
        notes = [(word, walker, name, hour) for hour in (1, 3, 6) for walker in "rs"
                 for word, name in (("at", "b"), ("at", "c"), ("on", "p"))]
        book = Book(meadow, HOMES, *notes, ("start", "r", ["c"]), ("start", "s", ["a"]))
        self.assertEqual(len(book), 20)
        self.check_book(book)
        self.assertTrue(some_day_fits(book))


class Failing(GrassCase):
    def check_failing(self, expected, *notes, meadow=None, homes=None):
        book = Book(meadow or line_meadow(3), homes or HOMES, *notes)
        self.assertEqual(failing(book), expected)
        self.assertIs(some_day_fits(book), not expected)
        self.assertIs(day_for(book) is None, bool(expected))

    def test_nothing(self):
        self.check_failing([])
        self.check_failing([], ("shows", "p", [OLD]), ("start", "r", ["a"]), ("away", "r", "b", 1))

    def test_away_from_home(self):
        note = ("away", "r", "a", 3)
        self.check_failing([("note", note)], note)

    def test_at(self):
        old = ("shows", "p", [OLD])
        self.check_failing([("note", ("at", "r", "b", 1)), ("note", ("at", "r", "c", 3))],
                           old, ("at", "r", "c", 3), ("at", "r", "b", 1), ("at", "r", "a", 3), ("at", "s", "b", 3))

    def test_on(self):
        self.check_failing([("note", ("on", "r", "p", 3))], ("on", "r", "p", 3), ("off", "r", "p", 3))
        self.check_failing([("note", ("on", "r", "q", 2))], ("on", "r", "q", 2), ("off", "r", "p", 2))
        self.check_failing([], ("on", "r", "q", 1), ("off", "r", "p", 2))

    def test_signs_and_walkers(self):
        self.check_failing([("sign", "p"), ("sign", "q")], ("shows", "p", []), ("shows", "q", []), homes={"r": "b", "s": "b"})
        self.check_failing([("walker", "r"), ("walker", "s")], ("start", "r", []), ("start", "s", []))
        self.check_failing([("walker", "r")], ("start", "r", ["b", "c"]), ("shows", "p", [OLD]))
        self.check_failing([("sign", "p")], ("later", "p", "q"), ("shows", "p", [OLD]), ("shows", "q", [OLD]))

    def test_the_order(self):
        book_notes = [("start", "s", []), ("start", "r", []), ("shows", "p", []), ("later", "q", "p"), ("off", "r", "p", 1),
                      ("on", "r", "p", 2), ("away", "s", "c", 1), ("at", "r", "b", 1), ("shows", "q", [OLD])]
        self.check_failing([("note", ("at", "r", "b", 1)), ("note", ("away", "s", "c", 1)), ("note", ("on", "r", "p", 2)),
                            ("sign", "p"), ("sign", "q"), ("walker", "r"), ("walker", "s")], *book_notes)

    def test_a_meadow_without_paths(self):
        meadow = Meadow(1, ["a", "b"], ["r"], [])
        self.check_failing([], meadow=meadow, homes={"r": "a"})
        self.check_failing([("walker", "r")], ("start", "r", ["b"]), meadow=meadow, homes={"r": "a"})
        self.assertEqual(ceiling_for(Book(meadow, {"r": "a"}, ("start", "r", []))), {})
        self.assertEqual(day_for(Book(meadow, {"r": "a"})), Day(meadow, {"r": "a"}, []))

    def test_a_start_behind_a_closed_path(self):
        meadow = Meadow(1, ["a", "b"], ["r"], [("p", "a", "b")], gates=[("r", "p", 0)])
        self.check_failing([("walker", "r")], ("start", "r", ["b"]), meadow=meadow, homes={"r": "a"})
        meadow = Meadow(1, ["a", "b"], ["r"], [("p", "a", "b")])
        self.check_failing([], ("start", "r", ["b"]), meadow=meadow, homes={"r": "a"})
        self.check_failing([("walker", "r")], ("start", "r", ["b"]), ("off", "r", "p", 1), meadow=meadow,
                           homes={"r": "a"})

    def test_what_is_returned_is_new(self):
        book = Book(line_meadow(3), HOMES, ("start", "r", []))
        failing(book).clear()
        ceiling_for(book).clear()
        self.assertEqual(failing(book), [("walker", "r")])
        self.assertTrue(bars(book, ceiling_for(book)))


if __name__ == "__main__":
    unittest.main()
