"""Days with few goings: points 50 and 51, and tallgrass/least/shortest.py."""

import itertools
import random
import unittest

from helpers import GrassCase, all_at, all_days, larger_meadows, line_meadow, meadow_of, small_meadows
from samples import all_sampled, days_by_homes, random_books
from tallgrass.base.errors import BadNote, BadNumber, NoDay, TooLarge, TooMany
from tallgrass.field.days import Day
from tallgrass.field.meadow import OLD, Meadow
from tallgrass.least.shortest import fewest_goings, fitting_days, shortest_day
from tallgrass.notes.book import Book, exact_book
from tallgrass.sweep.papers import some_day_fits

MEADOW = line_meadow(3)
HOMES = {"r": "a", "s": "c"}
FREE = Book(MEADOW, HOMES)
NONE = Book(MEADOW, HOMES, ("start", "r", []))
SIXTEEN = Book(MEADOW, HOMES, *[("off", walker, path, hour) for walker in "rs" for path in "pq" for hour in (1, 2, 3)],
               *[("away", "r", "b", hour) for hour in (1, 2, 3)], ("start", "r", ["a"]))


def without_at_and_on(book):
    return Book(book.meadow, book.homes(), *[note for note in book if note[0] not in ("at", "on")])


def in_order(days):
    return sorted(days, key=lambda day: (len(day), tuple(day.starts().values()), day.goings))


class Shortest(GrassCase):
    def check_book(self, book, fewest):
        day = shortest_day(book)
        self.assertIsInstance(day, Day)
        self.assertTrue(book.fits(day))
        self.assertEqual((len(day), fewest_goings(book)), (fewest, fewest))

    def test_ordinary(self):
        self.check_book(FREE, 0)
        self.check_book(FREE + ("start", "r", ["b", "c"]), 1)
        self.check_book(FREE + ("start", "r", ["c"]) + ("start", "s", ["a"]), 4)
        self.check_book(FREE + ("shows", "p", [(2, "r", "p", "a")]), 1)
        self.check_book(FREE + ("shows", "p", [(2, "s", "p", "b")]), 2)
        self.check_book(FREE + ("shows", "p", [(2, "s", "p", "b")]) + ("start", "s", ["c"]), 4)
        self.check_book(FREE + ("shows", "p", [(2, "s", "p", "b")]) + ("start", "s", ["c"]) + ("start", "r", ["c"]), 6)

    def test_orders(self):
        touched = FREE + ("shows", "p", [(1, "r", "p", "a"), (1, "s", "p", "b")])
        self.check_book(touched + ("later", "q", "p"), 2)
        self.check_book(touched + ("nolater", "q", "p"), 1)
        self.check_book(touched + ("nolater", "p", "q"), 2)
        self.check_book(FREE + ("later", "q", "p"), 1)
        self.check_book(FREE + ("nolater", "p", "q"), 0)

    def test_orders_of_signs_over_one_path(self):
        meadow = Meadow(2, ["a", "b"], ["r", "s"], [("p", "a", "b")], signs=[("u", ["r"], ["p"]), ("v", ["r", "s"], ["p"])])
        book = Book(meadow, {"r": "a", "s": "a"}, ("shows", "u", meadow.all_marks("u")[1:]))
        self.check_book(book, 1)
        self.check_book(book + ("nolater", "u", "v"), 1)
        self.check_book(book + ("later", "v", "u"), 2)
        self.check_book(book + ("nolater", "v", "u"), 1)

    def test_gates(self):
        meadow = Meadow(3, ["a", "b"], ["r"], [("p", "a", "b"), ("q", "a", "b")], gates=[("r", "p", 1)],
                        signs=[("p", ["r"], ["p"]), ("q", ["r"], ["q"])])
        book = Book(meadow, {"r": "a"}, ("later", "p", "q"))
        self.check_book(book, 1)
        self.check_book(book + ("shows", "q", meadow.all_marks("q")[1:]), 2)
        self.check_book(book + ("start", "r", ["b"]) + ("off", "r", "q", 2), 1)
        self.check_error(NoDay, None, shortest_day, book + ("shows", "q", [(2, "r", "q", "b"), (3, "r", "q", "a")]))

    def test_all_days_with_few_goings(self):
        seen = set()
        for at, most in enumerate((4, 3, 3, 3)):
            for book in random_books(small_meadows()[at], 60, 5, seed=70 + at):
                book = without_at_and_on(book)
                if not some_day_fits(book):
                    self.check_error(NoDay, None, shortest_day, book)
                    self.check_error(NoDay, None, fewest_goings, book)
                    continue
                days = [day for day in days_by_homes(at)[tuple(book.homes().values())] if book.fits(day)]
                if days:
                    self.check_book(book, min(map(len, days)))
                else:
                    self.assertGreater(fewest_goings(book), most)
                    self.check_book(book, fewest_goings(book))
                seen.add(fewest_goings(book))
        self.assertLessEqual({0, 1, 2, 3, 4}, seen)

    def test_exact_books(self):
        seen = set()
        for at in range(4):
            days = days_by_homes(at)
            for day in random.Random(at).sample([day for row in days.values() for day in row], 40):
                book = exact_book(day)
                fewest = min(len(other) for other in days[tuple(day.homes().values())] if book.fits(other))
                self.check_book(book, fewest)
                seen.add(fewest)
        self.assertLessEqual({1, 2, 3, 4}, seen)

    def test_bounds(self):
        for call in (fewest_goings, shortest_day):
            for meadow in larger_meadows():
                notes = [("at", walker, place, hour) for walker in "rs" for place in "abc" for hour in (1, 2, 3)]
                self.check_error(TooLarge, None, call, Book(meadow, all_at(meadow, "a"), *notes))
                self.check_error(TooLarge, None, call, Book(meadow, all_at(meadow, "a"), ("start", "r", [])))
            call(Book(meadow_of(), all_at(meadow_of(), "a")))
            self.assertEqual(len(SIXTEEN), 16)
            call(SIXTEEN)
            self.check_error(TooMany, 16, call, SIXTEEN + ("at", "r", "b", 1))
            self.check_error(TooMany, 16, call, SIXTEEN + ("start", "r", []))

    def test_at_and_on_are_refused(self):
        at, on = ("at", "r", "a", 1), ("on", "s", "q", 1)
        for call in (fewest_goings, shortest_day):
            for book in (FREE, NONE):
                self.check_error(BadNote, at, call, book + on + at)
                self.check_error(BadNote, on, call, book + on)
                self.check_error(BadNote, on, call, book + on + ("on", "s", "q", 3))
                self.check_error(BadNote, at, call, book + ("at", "s", "c", 1) + at)

    def test_no_day(self):
        self.check_error(NoDay, None, fewest_goings, NONE)
        self.check_error(NoDay, None, shortest_day, NONE)
        self.check_error(NoDay, None, shortest_day, FREE + ("away", "r", "a", 3))

    def test_the_largest_small_meadow(self):
        meadow = meadow_of()
        self.check_book(Book(meadow, all_at(meadow, "a"), ("shows", "u1", [(2, "s", "p1", "b")]), ("start", "r", ["c"]),
                             ("shows", "u2", [(1, "r", "p2", "d")]), ("later", "u3", "u1")), 4)


class FittingDays(GrassCase):
    def test_ordinary(self):
        meadow = Meadow.grassy(1, ["a", "b"], ["r"], [("p", "a", "b")])
        book = Book(meadow, {"r": "a"})
        none, one = Day(meadow, {"r": "a"}, []), Day(meadow, {"r": "b"}, [(1, "r", "p", "a")])
        two = Day(meadow, {"r": "a"}, [(1, "r", "p", "b"), (1, "r", "p", "a")])
        self.assertEqual(list(fitting_days(book, 0)), [none])
        self.assertEqual(list(fitting_days(book, 1)), [none, one])
        self.assertEqual(list(fitting_days(book, 2)), [none, one, two])
        self.assertEqual(list(fitting_days(book + ("at", "r", "b", 1), 2)), [one, two])
        self.assertEqual(list(fitting_days(book + ("on", "r", "p", 1) + ("start", "r", ["a"]), 2)), [two])

    def test_all_days(self):
        for at, meadow in enumerate(small_meadows()):
            days = all_days(meadow, 2)
            for book in random_books(meadow, 20, 4, seed=80 + at):
                expected = in_order([day for day in days if book.fits(day)])
                for most in (0, 1, 2):
                    found = list(fitting_days(book, most))
                    self.assertEqual(found, [day for day in expected if len(day) <= most])

    def test_there_are_many(self):
        book = Book(small_meadows()[2], all_at(small_meadows()[2], "b"))
        found = list(fitting_days(book, 2))
        self.assertGreater(len(found), 20)
        self.assertEqual(found, in_order(found))
        self.assertEqual(len({(tuple(day.starts().items()), day.goings) for day in found}), len(found))

    def test_no_day(self):
        self.assertEqual(list(fitting_days(NONE, 2)), [])
        self.assertEqual(list(fitting_days(FREE + ("start", "r", ["c"]) + ("start", "s", ["a"]), 2)), [])

    def test_one_by_one(self):
        days = fitting_days(FREE, 2)
        self.assertEqual(next(days), Day(MEADOW, HOMES, []))
        self.assertEqual(next(days), Day(MEADOW, {"r": "a", "s": "b"}, [(1, "s", "q", "c")]))

    def test_errors_come_with_the_iteration(self):
        large = Book(line_meadow(4), HOMES, *[(word, "r", place, hour) for word in ("at", "away") for place in "bc"
                                              for hour in (1, 2, 3, 4)], ("on", "r", "p", 1))
        self.assertEqual(len(large), 17)
        for most in (-1, 3, 5):
            self.check_error(BadNumber, most, next, fitting_days(large, most))
            self.check_error(BadNumber, most, next, fitting_days(FREE, most))
        for meadow in larger_meadows():
            self.check_error(TooLarge, None, next, fitting_days(Book(meadow, all_at(meadow, "a")), 0))
        self.check_error(TooLarge, None, next, fitting_days(large, 2))
        self.check_error(TooMany, 16, next, fitting_days(SIXTEEN + ("start", "r", []), 0))
        self.assertEqual([len(day) for day in itertools.islice(fitting_days(SIXTEEN, 2), 1)], [0])

    def test_the_largest_small_meadow(self):
        meadow = meadow_of()
        found = list(fitting_days(Book(meadow, all_at(meadow, "a"), ("shows", "u0", [OLD])), 2))
        self.assertEqual(found, in_order(found))
        self.assertEqual(found[0], Day(meadow, all_at(meadow, "a"), []))


class Sampled(GrassCase):
    def test_sampled_books(self):
        for book, days in all_sampled():
            self.assertEqual(list(fitting_days(book, 2)), in_order([day for day in days if len(day) <= 2]))


if __name__ == "__main__":
    unittest.main()
