"""Closures: points 45 and 46, and tallgrass/closing/closure.py."""

import random
import unittest

from helpers import GrassCase, all_at, larger_meadows, line_meadow, meadow_of, small_meadows
from samples import all_sampled, days_by_homes, random_note, sampled
from tallgrass.base.errors import NoDay, TooLarge, TooMany, Unknown
from tallgrass.closing.closure import Closure, closure, is_small
from tallgrass.closing.implied import same_days, thinned
from tallgrass.field.meadow import OLD, Meadow
from tallgrass.notes.book import Book
from tallgrass.notes.kinds import holds, normal_note, opposite
from tallgrass.sweep.papers import day_for, some_day_fits
from test_answers import HOURS, MORE

MEADOW = line_meadow(3)
HOMES = {"r": "a", "s": "c"}
FREE = Book(MEADOW, HOMES)
NONE = Book(MEADOW, HOMES, ("start", "r", []))


class Small(GrassCase):
    def test_bounds(self):
        self.assertIs(is_small(meadow_of()), True)
        self.assertIs(is_small(Meadow(1, ["a"], ["r"], [])), True)
        self.assertEqual(meadow_of().MOST_PLACES, 7)
        for meadow in larger_meadows():
            self.assertIs(is_small(meadow), False)

    def test_errors(self):
        sixteen = Book(MEADOW, HOMES, *HOURS, *MORE[:4])
        for call in (closure, Closure):
            for meadow in larger_meadows():
                homes = all_at(meadow, "a")
                self.check_error(TooLarge, None, call, Book(meadow, homes))
                notes = [("at", "r", place, hour) for place in "abcd" for hour in (1, 2, 3)]
                notes += [("on", "s", path, hour) for path in ("p0", "p1") for hour in (1, 2, 3)]
                self.check_error(TooLarge, None, call, Book(meadow, homes, *notes, ("start", "r", [])))
            call(Book(meadow_of(), all_at(meadow_of(), "a")))
            self.assertEqual(call(sixteen).on("r", "p"), 3)
            self.check_error(TooMany, 16, call, sixteen + ("start", "r", []))
            self.check_error(NoDay, None, call, sixteen - MORE[0] + ("start", "r", []))
            self.check_error(NoDay, None, call, NONE)


class Closures(GrassCase):
    def test_nothing_is_said(self):
        found = closure(FREE)
        self.assertIsInstance(found, Closure)
        self.assertEqual(found.book, FREE)
        to_p = (OLD, *[(hour, walker, "p", place) for hour in (1, 2, 3) for walker, place in ("ra", "sb")])
        to_q = (OLD, *[(hour, walker, "q", place) for hour in (1, 2, 3) for walker, place in ("rb", "sc")])
        self.assertEqual(found.marks_of("p"), to_p)
        self.assertEqual(found.starts_of("r"), ("a", "b", "c"))
        self.assertEqual((found.at("r", "a"), found.at("r", "b"), found.at("s", "c")), (3, 0, 3))
        self.assertEqual((found.away("r", "a"), found.away("r", "b")), (4, 4))
        self.assertEqual((found.on("r", "p"), found.off("r", "p")), (0, 4))
        self.assertEqual((found.later("p", "q"), found.later("q", "p"), found.later("p", "p")), ("open", "open", "nolater"))
        self.assertEqual(found.as_notes(), [
            ("at", "r", "a", 3), ("at", "s", "c", 3), ("shows", "p", to_p), ("shows", "q", to_q),
            ("start", "r", ("a", "b", "c")), ("start", "s", ("a", "b", "c"))])

    def test_much_is_said(self):
        book = FREE + ("shows", "p", [(2, "r", "p", "a")]) + ("shows", "q", [OLD])
        found = closure(book)
        self.assertEqual((found.marks_of("p"), found.marks_of("q")), (((2, "r", "p", "a"),), (OLD,)))
        self.assertEqual((found.starts_of("r"), found.starts_of("s")), (("a", "b"), ("c",)))
        self.assertEqual((found.at("r", "b"), found.at("r", "c"), found.at("s", "c")), (2, 0, 3))
        self.assertEqual((found.away("r", "b"), found.away("r", "c"), found.away("s", "a"), found.away("r", "a")), (3, 1, 1, 4))
        self.assertEqual((found.on("r", "p"), found.on("s", "p")), (2, 0))
        self.assertEqual((found.off("r", "p"), found.off("s", "p"), found.off("s", "q")), (3, 1, 1))
        self.assertEqual((found.later("p", "q"), found.later("q", "p")), ("later", "nolater"))
        self.assertEqual(found.as_notes(), [
            ("at", "r", "a", 3), ("at", "r", "b", 2), ("at", "s", "c", 3), ("away", "r", "b", 3), ("away", "r", "c", 1),
            ("away", "s", "a", 1), ("away", "s", "b", 1), ("later", "p", "q"), ("nolater", "q", "p"),
            ("off", "r", "p", 3), ("off", "r", "q", 1), ("off", "s", "p", 1), ("off", "s", "q", 1), ("on", "r", "p", 2),
            ("shows", "p", ((2, "r", "p", "a"),)), ("shows", "q", (OLD,)), ("start", "r", ("a", "b")), ("start", "s", ("c",))])

    def test_all_days_with_few_goings(self):
        seen = 0
        for book, days in all_sampled():
            if some_day_fits(book):
                found = closure(book)
                self.check_choices(book, days, found)
                self.check_hours(book, days, found)
                self.check_orders(book, days, found)
                self.assertEqual(found.as_notes(), self.notes_by_words(book.meadow, found))
                seen += len(days)
        self.assertGreater(seen, 1000)

    def check_choices(self, book, days, found):
        """What is there occurs, and nothing else does."""
        for sign, *_ in book.meadow.signs:
            marks = found.marks_of(sign)
            self.assertEqual(marks, tuple(sorted(marks)))
            self.assertLessEqual({day.shown(sign) for day in days}, set(marks))
            for mark in book.meadow.all_marks(sign):
                self.check_possible(book, ("shows", sign, (mark,)), mark in marks)
        for walker in book.meadow.walkers:
            starts = found.starts_of(walker)
            self.assertLessEqual({day.start(walker) for day in days}, set(starts))
            for place in book.meadow.places:
                self.check_possible(book, ("start", walker, (place,)), place in starts)

    def check_possible(self, book, note, expected):
        day = day_for(book + note)
        self.assertIs(day is not None, expected)
        if day is not None:
            self.assertTrue(book.fits(day) and holds(day, note))

    def check_hours(self, book, days, found):
        """The hours hold in all days, and nothing more does."""
        hours = range(1, book.meadow.hours + 1)
        for walker in book.meadow.walkers:
            names = [(place, "at", "away") for place in book.meadow.places]
            names += [(path, "on", "off") for path, *_ in book.meadow.paths]
            for name, there, gone in names:
                until, since = getattr(found, there)(walker, name), getattr(found, gone)(walker, name)
                for hour in hours:
                    self.check_sure(book, days, (there, walker, name, hour), hour <= until)
                    self.check_sure(book, days, (gone, walker, name, hour), hour >= since)
                self.assertIn(until, [0, *hours])
                self.assertIn(since, [*hours, hours[-1] + 1])

    def check_orders(self, book, days, found):
        names = [sign for sign, *_ in book.meadow.signs]
        for sign in names:
            self.assertEqual(found.later(sign, sign), "nolater")
            for other in names:
                if sign != other:
                    word = found.later(sign, other)
                    self.assertIn(word, ("later", "nolater", "open"))
                    for kind in ("later", "nolater"):
                        self.check_sure(book, days, (kind, sign, other), word == kind)

    def check_sure(self, book, days, note, expected):
        """The note holds in all days, or some day shows that it does not."""
        if expected:
            self.assertTrue(all(holds(day, note) for day in days))
        else:
            day = day_for(book + opposite(book.meadow, note))
            self.assertTrue(book.fits(day) and not holds(day, note))

    def notes_by_words(self, meadow, found):
        notes = [("shows", sign, found.marks_of(sign)) for sign, *_ in meadow.signs]
        for walker in meadow.walkers:
            notes.append(("start", walker, found.starts_of(walker)))
            for place in meadow.places:
                notes.append(("at", walker, place, found.at(walker, place)))
                notes.append(("away", walker, place, found.away(walker, place)))
            for path, *_ in meadow.paths:
                notes.append(("on", walker, path, found.on(walker, path)))
                notes.append(("off", walker, path, found.off(walker, path)))
        notes = [note for note in notes if note[-1] not in (0, meadow.hours + 1)]
        for sign, *_ in meadow.signs:
            for other, *_ in meadow.signs:
                if sign != other and found.later(sign, other) != "open":
                    notes.append((found.later(sign, other), sign, other))
        return sorted(notes)

    def test_as_notes_say_just_what_the_book_says(self):
        for at in range(len(small_meadows())):
            for book, _ in sampled(at):
                if some_day_fits(book):
                    notes = closure(book).as_notes()
                    self.assertEqual(notes, [normal_note(book.meadow, note) for note in notes])
                    for day in days_by_homes(at)[tuple(book.homes().values())][::5]:
                        self.assertIs(book.fits(day), all(holds(day, note) for note in notes))

    def test_what_is_returned_is_new(self):
        found = closure(FREE)
        found.as_notes().clear()
        self.assertEqual(len(found.as_notes()), 6)

    def test_unknown(self):
        found = closure(FREE)
        self.check_error(Unknown, "r", found.marks_of, "r")
        self.check_error(Unknown, "p", found.starts_of, "p")
        for call in (found.at, found.away, found.on, found.off):
            self.check_error(Unknown, "x", call, "x", "y")
            self.check_error(Unknown, "y", call, "r", "y")
        self.check_error(Unknown, "p", found.at, "r", "p")
        self.check_error(Unknown, "a", found.off, "r", "a")
        self.check_error(Unknown, "x", found.later, "x", "x")
        self.check_error(Unknown, "y", found.later, "p", "y")
        self.check_error(Unknown, "x", found.later, "x", "y")

    def test_no_paths_and_no_signs(self):
        found = closure(Book(Meadow(2, ["a", "b"], ["r"], []), {"r": "b"}))
        self.assertEqual(found.as_notes(), [("at", "r", "b", 2), ("away", "r", "a", 1), ("start", "r", ("b",))])


class Equal(GrassCase):
    def test_equal(self):
        book = FREE + ("on", "r", "p", 2)
        self.assertTrue(closure(book) == closure(book + ("on", "r", "p", 1)))
        self.assertFalse(closure(book) == closure(FREE))
        self.assertTrue(closure(book) != closure(FREE))
        self.assertFalse(closure(FREE) == FREE)
        self.assertFalse(closure(FREE) == closure(FREE).as_notes())

    def test_homes_and_meadows(self):
        meadow = Meadow(1, ["a", "b"], ["r"], [])
        self.assertTrue(closure(Book(meadow, {"r": "a"})) == closure(Book(Meadow(1, ["b", "a"], ["r"], []), {"r": "a"})))
        self.assertFalse(closure(Book(meadow, {"r": "a"})) == closure(Book(meadow, {"r": "b"})))
        path = Meadow(1, ["a", "b"], ["r"], [("p", "a", "b")])
        at_a, at_b = Book(path, {"r": "a"}, ("at", "r", "b", 1)), Book(path, {"r": "b"}, ("at", "r", "a", 1))
        self.assertEqual(closure(at_a).as_notes(), closure(at_b).as_notes())
        self.assertFalse(closure(at_a) == closure(at_b))
        closed = Meadow(1, ["a", "b"], ["r"], [("p", "a", "b")], gates=[("r", "p", 0)])
        other = Meadow(1, ["a", "b"], ["r"], [("p", "a", "b")])
        book = Book(other, {"r": "a"}, ("off", "r", "p", 1))
        self.assertEqual(closure(book).as_notes(), closure(Book(closed, {"r": "a"})).as_notes())
        self.assertFalse(closure(book) == closure(Book(closed, {"r": "a"})))

    def test_just_where_the_same_days_fit(self):
        rng = random.Random(41)
        equal = []
        for book, _ in all_sampled():
            notes = rng.sample(book.notes, max(0, len(book) - 1)) + [random_note(book.meadow, rng)]
            for other in (thinned(book), Book(book.meadow, book.homes(), *notes)):
                if some_day_fits(book) and some_day_fits(other):
                    equal.append(closure(book) == closure(other))
                    self.assertIs(equal[-1], same_days(book, other))
        self.assertGreater(min(equal.count(True), equal.count(False)), 10)


if __name__ == "__main__":
    unittest.main()
