"""The texts of notes and of books: point 25 and tallgrass/notes/notetext.py."""

import unittest

from helpers import GrassCase, line_meadow, small_meadows
from samples import random_books
from tallgrass.base.errors import BadLine, BadNote, BadNumber, Unknown
from tallgrass.field.meadow import OLD
from tallgrass.notes.book import Book
from tallgrass.notes.notetext import book_text, note_text, read_book, read_note

MEADOW = line_meadow(6)
HOMES = {"r": "a", "s": "b"}
LONG = "1" + "0" * 5000
TEXTS = [
    (("shows", "p", (OLD, (2, "r", "p", "a"))), "shows p old 2:r:p:a"), (("shows", "p", ()), "shows p"),
    (("shows", "q", ((1, "s", "q", "b"), (1, "s", "q", "c"))), "shows q 1:s:q:b 1:s:q:c"),
    (("start", "r", ("a", "b")), "start r a b"), (("start", "r", ()), "start r"),
    (("at", "r", "a", 2), "at r a 2"), (("away", "r", "a", 2), "away r a 2"),
    (("on", "r", "p", 1), "on r p 1"), (("off", "r", "p", 1), "off r p 1"),
    (("later", "p", "q"), "later p q"), (("nolater", "p", "q"), "nolater p q"),
]


class NoteText(GrassCase):
    def test_written_and_read(self):
        for note, text in TEXTS:
            self.assertEqual(note_text(MEADOW, note), text)
            self.assertEqual(read_note(MEADOW, text), note)

    def test_the_normal_form_is_written(self):
        note = ("shows", "p", [(2, "r", "p", "a"), OLD, (2, "r", "p", "a")])
        self.assertEqual(note_text(MEADOW, note), "shows p old 2:r:p:a")
        self.assertEqual(note_text(MEADOW, ("start", "r", ["b", "a", "b"])), "start r a b")

    def test_errors_of_writing(self):
        self.check_error(BadNote, ("at",), note_text, MEADOW, ("at",))
        self.check_error(Unknown, "x", note_text, MEADOW, ("at", "x", "y", 9))
        self.check_error(BadNumber, 9, note_text, MEADOW, ("at", "r", "a", 9))

    def test_any_order(self):
        self.assertEqual(read_note(MEADOW, "shows p 2:r:p:a 1:s:p:b old"),
                         ("shows", "p", (OLD, (1, "s", "p", "b"), (2, "r", "p", "a"))))
        self.assertEqual(read_note(MEADOW, "start s c a"), ("start", "s", ("a", "c")))

    def test_bad_lines(self):
        for line in (
                "", " ", "x", "shows", "start", "at", "at r", "at r a", "at r a 2 2", "at r a b", "later p", "later p q p",
                "nolater p", "on r p", "off r p 1 1", "Shows p", "shows p ", " shows p", "shows  p", "shows p\n", "shows\tp",
                "at r a 1\n", "later p q\n", "start r a\n", "shows p old\n", "at r a 1\nat r a 1", "show p", "home r a"):
            self.check_error(BadLine, 1, read_note, MEADOW, line)

    def test_unknown_names_and_hours(self):
        for line in (
                "shows x", "start x a", "start r x", "start r p", "at x a 1", "at r p 1", "at r x 1", "on r a 1", "on p r 1",
                "off r x 1", "later x p", "later p x", "later p p", "nolater q q", "nolater a p", "at r a 0", "at r a 7",
                "at r a 01", "at r a -1", "at r a +1", "at r a 1000", "on r p " + LONG, "at r a \u0661"):
            self.check_error(BadLine, 1, read_note, MEADOW, line)

    def test_bad_marks(self):
        for word in ("Old", "olds", "0:::", "0:r:p:a", "01:r:p:a", "7:r:p:a", "1:r:q:b", "1:r:p:c", "1:r:p", "1:r:p:a:b",
                     "1:x:p:a", ":r:p:a", "-1:r:p:a", "+1:r:p:a", "1:r:p:", "1:r:p:a:", "1;r;p;a", "r:p:a", "1",
                     LONG + ":r:p:a", "1000:r:p:a", ":::", "0"):
            self.check_error(BadLine, 1, read_note, MEADOW, "shows p old " + word)
            self.check_error(BadLine, 1, read_note, MEADOW, "shows p " + word)

    def test_nothing_stands_twice(self):
        for line in ("shows p old old", "shows p 1:r:p:a old 1:r:p:a", "start r a a", "start r a b a"):
            self.check_error(BadLine, 1, read_note, MEADOW, line)


class BookText(GrassCase):
    homes = ["home r a", "home s b"]

    def check_bad(self, line, *lines):
        self.check_error(BadLine, line, read_book, MEADOW, "\n".join(lines))

    def test_written(self):
        book = Book(MEADOW, {"s": "b", "r": "a"}, *[note for note, _ in TEXTS])
        lines = sorted([text for _, text in TEXTS], key=lambda text: [text for _, text in sorted(TEXTS)].index(text))
        self.assertEqual(book_text(book), "\n".join(self.homes + lines))
        self.assertEqual(book_text(Book(MEADOW, HOMES)), "home r a\nhome s b")

    def test_read_back(self):
        for meadow in small_meadows():
            for book in random_books(meadow, 20, 9):
                self.assertEqual(read_book(meadow, book_text(book)), book)

    def test_notes_in_any_order(self):
        lines = [text for _, text in TEXTS]
        book = Book(MEADOW, HOMES, *[note for note, _ in TEXTS])
        self.assertEqual(read_book(MEADOW, "\n".join(self.homes + lines)), book)
        self.assertEqual(read_book(MEADOW, "\n".join(self.homes + lines[::-1])), book)

    def test_the_homes(self):
        self.check_error(BadLine, 1, read_book, MEADOW, "")
        self.check_bad(2, "home r a")
        self.check_bad(2, "home r a", "")
        self.check_bad(1, "home s b", "home r a")
        self.check_bad(2, "home r a", "home r a")
        self.check_bad(2, "home r a", "at r a 1", "home s b")
        self.check_bad(2, "home r a", "home s x")
        self.check_bad(3, *self.homes, "home s b")
        self.check_bad(3, *self.homes, "home t b")
        for line in ("home r", "home r a b", "start r a", "home  r a", "home r a ", "Home r a"):
            self.check_bad(1, line, "home s b")

    def test_bad_notes(self):
        for line in ("", "at", "at r a 0", "at x a 1", "shows p old old", "start r a a", "at r a 1 ", "nonsense",
                     "later p p", "at r a " + LONG):
            self.check_bad(4, *self.homes, "on r p 1", line)
            self.check_bad(4, *self.homes, "on r p 1", line, "nonsense")
        self.check_bad(1, "nonsense", "nonsense")

    def test_a_line_feed_at_the_end(self):
        self.check_bad(3, *self.homes, "")
        self.check_bad(4, *self.homes, "on r p 1", "")

    def test_repeated_notes(self):
        self.check_bad(5, *self.homes, "at r a 1", "on r p 1", "at r a 1", "nonsense")
        self.check_bad(4, *self.homes, "shows p old 1:r:p:a", "shows p 1:r:p:a old")
        self.check_bad(4, *self.homes, "start r a b", "start r b a")

    def test_most_notes(self):
        lines = [f"{word} {walker} {place} {hour}" for word in ("at", "away") for walker in "rs" for place in "ab"
                 for hour in range(1, 7)]
        self.assertEqual(len(read_book(MEADOW, "\n".join(self.homes + lines[:20]))), 20)
        self.check_bad(23, *self.homes, *lines[:21])
        self.check_bad(23, *self.homes, *lines[:24])
        self.check_bad(12, *self.homes, *lines[:9], "nonsense", *lines[9:])


if __name__ == "__main__":
    unittest.main()
