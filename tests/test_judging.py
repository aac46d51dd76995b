"""Ceilings and bars: points 30 and 31, and tallgrass/sweep/judging.py."""

import itertools
import unittest

import slow
from helpers import GrassCase, all_days, line_meadow, small_meadows
from samples import random_books
from tallgrass.field.meadow import OLD, Meadow
from tallgrass.notes.book import Book
from tallgrass.sweep.judging import bars, is_ceiling
from tallgrass.sweep.papers import ceiling_for, some_day_fits
from tallgrass.sweep.sweeping import sweep


def all_tables(meadow):
    names = [name for name, *_ in meadow.signs]
    return [dict(zip(names, numbers)) for numbers in itertools.product(range(meadow.hours + 1), repeat=len(names))]


class Tables(GrassCase):
    def test_every_table_of_many_books(self):
        for meadow in small_meadows():
            for book in random_books(meadow, 25):
                self.check_tables(book, all_tables(meadow))

    def check_tables(self, book, tables):
        lates, fits = sweep(book).lates(), some_day_fits(book)
        ceilings = []
        for table in tables:
            self.assertIs(is_ceiling(book, table), slow.is_ceiling(book, table))
            self.assertIs(bars(book, table), is_ceiling(book, table) and slow.is_barred(book, table))
            self.assertFalse(fits and bars(book, table))
            if is_ceiling(book, table):
                ceilings.append(table)
                self.assertTrue(all(lates[sign] <= table[sign] for sign in lates))
        self.assertIn(lates, ceilings)
        for one, two in itertools.combinations(ceilings[::3], 2):
            self.assertTrue(is_ceiling(book, {sign: min(one[sign], two[sign]) for sign in one}))

    def test_days_stay_below_a_ceiling(self):
        for meadow in small_meadows():
            days = all_days(meadow, 2)
            for book in random_books(meadow, 6, 3):
                ceilings = [table for table in all_tables(meadow) if is_ceiling(book, table)]
                for day in days:
                    if book.fits(day):
                        shown = {sign: day.shown(sign)[0] for sign, *_ in meadow.signs}
                        self.assertTrue(all(shown[sign] <= table[sign] for table in ceilings for sign in shown))

    def test_the_papers_of_the_sweep(self):
        for meadow in small_meadows():
            for book in random_books(meadow, 40):
                self.assertTrue(is_ceiling(book, sweep(book).lates()))
                self.assertIs(bars(book, sweep(book).lates()), not some_day_fits(book))


class NoTables(GrassCase):
    book = Book(line_meadow(3), {"r": "a", "s": "a"}, ("start", "r", []))

    def check_no_table(self, table):
        given = dict(table)
        self.assertIs(is_ceiling(self.book, table), False)
        self.assertIs(bars(self.book, table), False)
        self.assertEqual(table, given)

    def test_a_table(self):
        self.assertEqual(ceiling_for(self.book), {"p": 3, "q": 3})
        for table in ({"p": 3, "q": 3}, {"q": 3, "p": 3}):
            self.assertIs(is_ceiling(self.book, table), True)
            self.assertIs(bars(self.book, table), True)

    def test_no_tables(self):
        for table in ({}, {"p": 3}, {"q": 3}, {"p": 3, "q": 3, "x": 3}, {"p": 3, "x": 3}, {"p": 3, "q": 3, "a": 0},
                      {"p": 3, "q": 4}, {"p": 3, "q": -1}, {"p": 4, "q": 4}, {"p": 3, "q": 3, "": 3}, {"p": 100, "q": 3}):
            self.check_no_table(table)

    def test_a_number_below_nought(self):
        book = Book(line_meadow(3), {"r": "a", "s": "a"}, ("start", "r", []), ("shows", "q", [OLD]))
        self.assertEqual((is_ceiling(book, {"p": 3, "q": 0}), bars(book, {"p": 3, "q": 0})), (True, True))
        self.assertEqual((is_ceiling(book, {"p": 3, "q": -1}), bars(book, {"p": 3, "q": -1})), (False, False))

    def test_no_signs(self):
        book = Book(Meadow(1, ["a", "b"], ["r"], []), {"r": "a"}, ("start", "r", ["b"]))
        self.assertEqual((is_ceiling(book, {}), bars(book, {})), (True, True))
        self.assertEqual((is_ceiling(book, {"p": 0}), bars(book, {"p": 0})), (False, False))


class Bars(GrassCase):
    meadow = Meadow.grassy(2, ["a", "b", "c"], ["r"], [("p", "a", "b"), ("q", "b", "c")])

    def check(self, expected, table, *notes):
        book = Book(self.meadow, {"r": "a"}, *notes)
        self.assertTrue(is_ceiling(book, table))
        self.assertIs(bars(book, table), expected)

    def test_each_condition(self):
        top = {"p": 2, "q": 2}
        self.check(False, top)
        self.check(True, top, ("away", "r", "a", 2))
        self.check(False, top, ("away", "r", "b", 2))
        self.check(True, top, ("shows", "p", []))
        self.check(True, top, ("shows", "p", [OLD, (1, "r", "p", "a")]), ("shows", "p", [OLD]), ("later", "p", "q"))
        self.check(True, {"p": 0, "q": 2}, ("shows", "p", [(1, "r", "p", "b")]))
        self.check(False, {"p": 1, "q": 2}, ("shows", "p", [(1, "r", "p", "b")]))
        self.check(True, {"p": 1, "q": 1}, ("shows", "p", [(2, "r", "p", "b")]))
        self.check(False, {"p": 2, "q": 2}, ("shows", "p", [(2, "r", "p", "b")]))
        self.check(True, {"p": 0, "q": 0}, ("shows", "p", [OLD]), ("start", "r", ["b"]))
        self.check(True, {"p": 1, "q": 2}, ("off", "r", "p", 2), ("at", "r", "b", 2))
        self.check(False, {"p": 1, "q": 2}, ("off", "r", "p", 2), ("at", "r", "b", 1))
        self.check(True, {"p": 2, "q": 1}, ("off", "r", "q", 2), ("on", "r", "q", 2))
        self.check(True, {"p": 1, "q": 2}, ("off", "r", "p", 2), ("on", "r", "q", 2))

    def test_a_table_below_the_sweep_is_no_ceiling(self):
        book = Book(self.meadow, {"r": "a"}, ("start", "r", []))
        for table in ({"p": 1, "q": 2}, {"p": 0, "q": 0}, {"p": 2, "q": 1}):
            self.assertEqual((is_ceiling(book, table), bars(book, table)), (False, False))


if __name__ == "__main__":
    unittest.main()
