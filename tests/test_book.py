"""Books: points 21 to 24 and tallgrass/notes/book.py."""

import unittest

from helpers import GrassCase, all_days, line_meadow, small_meadows
from samples import random_books
from tallgrass.base.errors import BadMark, BadNote, BadNumber, BadPlacing, Clash, NotThere, TooMany, Unknown
from tallgrass.field.days import Day
from tallgrass.field.meadow import OLD, Meadow
from tallgrass.notes.book import Book, exact_book
from tallgrass.notes.kinds import holds
from tallgrass.notes.reading import Reading

MEADOW = line_meadow(6)
HOMES = {"r": "a", "s": "b"}
AT = ("at", "r", "c", 2)
SHOWS = ("shows", "p", [(2, "r", "p", "a"), OLD, OLD])
NORMAL = ("shows", "p", (OLD, (2, "r", "p", "a")))


def notes_to(count):
    """So many different notes."""
    pairs = [(word, walker, place, hour) for word in ("at", "on") for walker in "rs"
             for place in ("ab" if word == "at" else "pq") for hour in range(1, 7)]
    return pairs[:count]


class Making(GrassCase):
    def test_both_ways(self):
        book = Book(MEADOW, HOMES, SHOWS, AT)
        self.assertEqual(book, Book.made(MEADOW, HOMES, [AT, NORMAL]))
        self.assertEqual((book.meadow, book.notes), (MEADOW, (AT, NORMAL)))
        self.assertEqual((book.homes(), book.home("r"), book.home("s")), (HOMES, "a", "b"))
        self.assertEqual((len(book), list(book)), (2, [AT, NORMAL]))
        self.assertEqual(Book(MEADOW, HOMES).notes, ())
        self.assertEqual(Book.MOST_NOTES, 20)
        self.check_error(Unknown, "a", book.home, "a")

    def test_notes_given_twice_or_in_another_spelling(self):
        book = Book(MEADOW, HOMES, SHOWS, NORMAL, AT, AT, ("start", "r", ["b", "a"]), ("start", "r", ("a", "b", "a")))
        self.assertEqual(book.notes, (AT, NORMAL, ("start", "r", ("a", "b"))))

    def test_most_notes(self):
        notes = notes_to(21)
        more = [SHOWS, NORMAL, ("shows", "p", NORMAL[2][::-1])]
        for make in (lambda rows: Book(MEADOW, HOMES, *rows), lambda rows: Book.made(MEADOW, HOMES, rows)):
            self.assertEqual(len(make(notes[:20])), 20)
            self.assertEqual(len(make(notes[:20] + notes[:20])), 20)
            self.assertEqual(len(make(notes[:19] + more)), 20)
            self.check_error(TooMany, 20, make, notes)
            self.check_error(TooMany, 20, make, notes[:20] + more)

    def test_the_order_of_the_checks(self):
        for make in (lambda homes, *rows: Book(MEADOW, homes, *rows), lambda homes, *rows: Book.made(MEADOW, homes, rows)):
            self.check_error(BadPlacing, "r", make, {"s": "x"}, ("at",))
            self.check_error(BadPlacing, "s", make, {"r": "a", "s": "x", "t": "a"}, ("at",))
            self.check_error(BadPlacing, "t", make, {"r": "a", "s": "a", "t": "a"})
            self.check_error(BadPlacing, "q", make, {"q": "a"})
            self.check_error(BadNote, ("at",), make, HOMES, AT, ("at",), ("x",))
            self.check_error(Unknown, "x", make, HOMES, ("on", "x", "p", 9), ("at",))
            self.check_error(BadNumber, 7, make, HOMES, *notes_to(21), ("at", "r", "a", 7))
            self.check_error(BadMark, (), make, HOMES, *notes_to(21), ("shows", "p", [()]))

    def test_what_is_given_is_copied(self):
        homes, marks, places = dict(HOMES), [(2, "r", "p", "a"), OLD], ["b", "a"]
        notes = [("shows", "p", marks), ("start", "r", places)]
        book = Book.made(MEADOW, homes, notes)
        self.assertEqual((homes, marks, places, len(notes)), (HOMES, [(2, "r", "p", "a"), OLD], ["b", "a"], 2))
        homes["r"] = "c"
        for given in (marks, places, notes):
            given.clear()
        self.assertEqual(book, Book(MEADOW, HOMES, NORMAL, ("start", "r", ("a", "b"))))
        book.homes().clear()
        self.assertEqual(book.homes(), HOMES)
        self.assertEqual(Book.made(MEADOW, HOMES, (AT, SHOWS)), Book(MEADOW, HOMES, AT, SHOWS))

    def test_equality(self):
        book = Book(MEADOW, HOMES, AT, SHOWS)
        self.assertTrue(book == Book(line_meadow(6), dict(HOMES), NORMAL, AT))
        for other in (Book(line_meadow(5), HOMES, AT, SHOWS), Book(MEADOW, {"r": "a", "s": "a"}, AT, SHOWS),
                      Book(MEADOW, HOMES, AT), book.notes, None):
            self.assertFalse(book == other)
            self.assertTrue(book != other)


class Operators(GrassCase):
    def test_add(self):
        book = Book(MEADOW, HOMES, AT)
        self.assertEqual(book + SHOWS, Book(MEADOW, HOMES, AT, SHOWS))
        self.assertEqual(book + AT, book)
        self.assertEqual(book.notes, (AT,))
        self.check_error(Unknown, "x", lambda: book + ("on", "x", "p", 9))
        full = Book(MEADOW, HOMES, *notes_to(20))
        self.assertEqual(full + notes_to(1)[0], full)
        self.check_error(TooMany, 20, lambda: full + SHOWS)
        self.check_error(BadNote, ("later", "p", "p"), lambda: full + ("later", "p", "p"))

    def test_subtract(self):
        book = Book(MEADOW, HOMES, AT, SHOWS)
        self.assertEqual(book - AT, Book(MEADOW, HOMES, SHOWS))
        self.assertEqual(book - ("shows", "p", [(2, "r", "p", "a"), OLD]), Book(MEADOW, HOMES, AT))
        self.assertEqual(len(book), 2)
        self.check_error(NotThere, ("start", "r", ("a", "b")), lambda: book - ("start", "r", ["b", "a", "b"]))
        self.check_error(Unknown, "x", lambda: book - ("start", "x", []))

    def test_join(self):
        one, two = Book(MEADOW, HOMES, AT), Book(line_meadow(6), HOMES, AT, SHOWS)
        self.assertEqual(one & two, two)
        self.assertEqual(two & one, two)
        self.assertEqual((one.notes, len(two)), ((AT,), 2))
        self.check_error(Clash, None, lambda: one & Book(line_meadow(5), HOMES, AT))
        self.check_error(Clash, None, lambda: one & Book(MEADOW, {"r": "a", "s": "a"}, AT))
        notes = notes_to(21)
        self.assertEqual(len(Book(MEADOW, HOMES, *notes[:12]) & Book(MEADOW, HOMES, *notes[10:20])), 20)
        self.check_error(TooMany, 20, lambda: Book(MEADOW, HOMES, *notes[:12]) & Book(MEADOW, HOMES, *notes[10:]))
        self.check_error(Clash, None, lambda: Book(MEADOW, HOMES, *notes[:12])
                         & Book(MEADOW, {"r": "a", "s": "a"}, *notes[10:]))

    def test_contains(self):
        book = Book(MEADOW, HOMES, AT, SHOWS)
        for note in (AT, NORMAL):
            self.assertIs(note in book, True)
        for note in (("at", "r", "c", 3), ("shows", "p", (OLD,)), ("shows", "p", NORMAL[2][::-1]), (), ("x",)):
            self.assertIs(note in book, False)


class Fitting(GrassCase):
    def test_fits_by_its_words(self):
        for meadow in small_meadows():
            days = all_days(meadow, 2)[::5]
            for book in random_books(meadow, 8, 4):
                for day in days:
                    broken = [note for note in book.notes if not holds(day, note)]
                    self.assertEqual(book.broken(day), broken)
                    self.assertIs(book.fits(day), not broken and day.homes() == book.homes())

    def test_homes(self):
        day = Day(MEADOW, {"r": "a", "s": "a"}, [])
        book = Book(MEADOW, HOMES, ("at", "r", "a", 1), ("at", "s", "b", 1), ("on", "r", "p", 1))
        self.assertEqual(book.broken(day), [("at", "s", "b", 1), ("on", "r", "p", 1)])
        self.assertFalse(Book(MEADOW, HOMES).fits(day))
        self.assertEqual(Book(MEADOW, HOMES).broken(day), [])

    def test_clash(self):
        day = Day(line_meadow(5), HOMES, [])
        for call in (Book(MEADOW, HOMES).fits, Book(MEADOW, HOMES).broken):
            self.check_error(Clash, None, call, day)
        self.assertTrue(Book(MEADOW, HOMES).fits(Day(line_meadow(6), HOMES, [])))

    def test_exact_book(self):
        day = Day(MEADOW, {"r": "b", "s": "b"}, [(3, "r", "p", "a")])
        self.assertEqual(exact_book(day), Book(MEADOW, HOMES, ("start", "r", ["b"]), ("start", "s", ["b"]),
                                               ("shows", "p", [(3, "r", "p", "a")]), ("shows", "q", [OLD])))
        for meadow in small_meadows():
            for day in all_days(meadow, 2)[::9]:
                book = exact_book(day)
                self.assertTrue(book.fits(day))
                self.assertEqual(len(book), len(meadow.walkers) + len(meadow.signs))
                self.assertEqual(book.homes(), day.homes())


class SingleThings(GrassCase):
    meadow = Meadow(4, ["a", "b", "c"], ["p", "s"], [("p", "a", "b"), ("q", "b", "c")], gates=[("s", "p", 3)],
                    signs=[("p", ["p", "s"], ["p"]), ("q", ["s"], ["q"])])
    homes = {"p": "a", "s": "a"}

    def book(self, *notes):
        return Book(self.meadow, self.homes, *notes)

    def test_allowed(self):
        marks = self.meadow.all_marks("p")
        book = self.book(("shows", "p", marks[:5]), ("shows", "p", marks[2:7]), ("shows", "q", []))
        self.assertEqual(book.allowed("p"), Reading(self.meadow, "p", marks[2:5]))
        self.assertEqual(book.allowed("q"), Reading.nothing(self.meadow, "q"))
        self.assertEqual(self.book().allowed("p"), Reading.every(self.meadow, "p"))
        self.check_error(Unknown, "s", book.allowed, "s")

    def test_may_start(self):
        book = self.book(("start", "s", ["a", "b"]), ("start", "s", ["b", "c"]), ("start", "p", []))
        self.assertEqual((book.may_start("s"), book.may_start("p")), (("b",), ()))
        self.assertEqual(self.book().may_start("s"), ("a", "b", "c"))
        self.check_error(Unknown, "q", book.may_start, "q")

    def test_gate(self):
        self.assertEqual([self.book().gate(walker, path) for walker in "ps" for path in "pq"], [4, 4, 3, 4])
        book = self.book(("off", "s", "p", 4), ("off", "p", "q", 2), ("off", "p", "q", 3))
        self.assertEqual([book.gate(walker, path) for walker in "ps" for path in "pq"], [4, 1, 3, 4])
        book = self.book(("away", "s", "b", 3), ("away", "p", "a", 1), ("away", "p", "c", 4))
        self.assertEqual([book.gate(walker, path) for walker in "ps" for path in "pq"], [0, 3, 2, 2])
        book = self.book(("off", "s", "p", 2), ("away", "s", "a", 4), ("on", "s", "p", 1), ("at", "s", "b", 1),
                         ("later", "p", "q"), ("shows", "p", []), ("start", "p", []))
        self.assertEqual([book.gate(walker, path) for walker in "ps" for path in "pq"], [4, 4, 1, 4])
        self.check_error(Unknown, "x", book.gate, "x", "y")
        self.check_error(Unknown, "y", book.gate, "s", "y")

    def test_must(self):
        self.assertIs(self.book().must("p"), False)
        self.assertIs(self.book(("shows", "p", [OLD])).must("p"), False)
        self.assertIs(self.book(("shows", "p", [])).must("p"), True)
        self.assertIs(self.book(("shows", "p", [(1, "s", "p", "a")])).must("p"), True)
        later = self.book(("later", "p", "q"))
        self.assertEqual((later.must("p"), later.must("q")), (True, False))
        nolater = self.book(("nolater", "p", "q"))
        self.assertEqual((nolater.must("p"), nolater.must("q")), (False, False))
        split = self.book(("shows", "p", [OLD, (1, "s", "p", "a")]), ("shows", "p", [(1, "s", "p", "a")]))
        self.assertIs(split.must("p"), True)
        self.check_error(Unknown, "s", split.must, "s")


if __name__ == "__main__":
    unittest.main()
