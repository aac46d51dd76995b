"""The sweep: points 26, 27 and 32, and tallgrass/sweep/sweeping.py."""

import random
import unittest

import slow
from helpers import GrassCase, line_meadow, small_meadows
from samples import random_book, random_books, random_note
from tallgrass.base.errors import BadNumber, Unknown
from tallgrass.field.meadow import OLD, Meadow
from tallgrass.notes.book import Book
from tallgrass.sweep.sweeping import Sweep, sweep, sweep_table

LARGE = Meadow(6, ["a", "b", "c", "d", "e", "f", "g"], ["r", "s", "t"],
               [("p1", "a", "b"), ("p2", "b", "c"), ("p3", "c", "d"), ("p4", "d", "e"), ("p5", "e", "f"),
                ("p6", "f", "g"), ("p7", "a", "g"), ("p8", "a", "d"), ("p9", "b", "f")],
               gates=[("r", "p1", 4), ("s", "p5", 2), ("t", "p9", 0)],
               signs=[("u1", ["r", "s", "t"], ["p1", "p2"]), ("u2", ["r"], ["p3", "p4"]), ("u3", ["s", "t"], ["p3"]),
                      ("u4", ["t"], ["p5", "p6", "p7"]), ("u5", ["r", "s"], ["p8"]), ("u6", ["r", "s", "t"], ["p9"]),
                      ("u7", ["s"], ["p1", "p4"]), ("u8", ["r", "t"], ["p6"]), ("u9", ["r"], ["p2", "p7"])])


def books():
    found = [book for meadow in small_meadows() for book in random_books(meadow, 40)]
    return found + random_books(LARGE, 30, 20)


class Words(GrassCase):
    def test_order_takes_the_least_going(self):
        for book in books():
            self.assertEqual(sweep(book).order, tuple(slow.sweep(book, min)))

    def test_which_going_is_taken_makes_no_difference(self):
        rng = random.Random(5)
        for book in books():
            for choose in (max, rng.choice):
                self.assertEqual(sweep(book).lates(), slow.lates(book, slow.sweep(book, choose)))

    def test_the_methods(self):
        for book in books()[::2]:
            swept = sweep(book)
            lates = swept.lates()
            meadow = book.meadow
            self.assertEqual({name: swept.late(name) for name, *_ in meadow.signs}, lates)
            for hour in range(1, meadow.hours + 1):
                freed = slow.freed_under(lates, hour)
                self.assertEqual(swept.freed(hour), tuple(sorted(freed)))
                for walker in meadow.walkers:
                    self.assertEqual(swept.reach(walker, hour), tuple(sorted(slow.reach(book, walker, hour, freed))))
                    for path, *_ in meadow.paths:
                        self.assertIs(swept.passable(walker, path, hour), slow.is_open(book, walker, path, hour, freed))

    def test_all_is_freed_without_notes(self):
        meadow = line_meadow(3)
        swept = Sweep(Book(meadow, {"r": "a", "s": "c"}))
        self.assertEqual(swept.order, ((3, "r", "p", "a", ("p",)), (3, "r", "q", "b", ("q",))))
        self.assertEqual(swept.lates(), {"p": 3, "q": 3})
        self.assertEqual((swept.book, swept.reach("r", 3)), (Book(meadow, {"r": "a", "s": "c"}), ("a", "b", "c")))


class Conditions(GrassCase):
    """One condition of point 26 after the other."""

    meadow = Meadow.grassy(2, ["a", "b", "c"], ["r"], [("p", "a", "b"), ("q", "b", "c")])

    def lates(self, *notes, home="a", meadow=None):
        return sweep(Book(meadow or self.meadow, {"r": home}, *notes)).lates()

    def test_gates(self):
        self.assertEqual(self.lates(("off", "r", "p", 2)), {"p": 1, "q": 1})
        self.assertEqual(self.lates(("off", "r", "q", 1)), {"p": 2, "q": 0})
        self.assertEqual(self.lates(("away", "r", "c", 2)), {"p": 2, "q": 1})

    def test_allowed(self):
        self.assertEqual(self.lates(("shows", "p", [(2, "r", "p", "b")])), {"p": 0, "q": 0})
        self.assertEqual(self.lates(("shows", "p", [(1, "r", "p", "a")])), {"p": 1, "q": 1})
        self.assertEqual(self.lates(("shows", "p", [OLD])), {"p": 0, "q": 0})
        self.assertEqual(self.lates(("shows", "p", [OLD]), home="b"), {"p": 0, "q": 2})
        two = Meadow(2, ["a", "b"], ["r"], [("p", "a", "b")], signs=[("u", ["r"], ["p"]), ("v", ["r"], ["p"])])
        self.assertEqual(self.lates(("shows", "u", [(1, "r", "p", "a")]), meadow=two), {"u": 1, "v": 1})
        both = [("shows", "u", [(1, "r", "p", "a")]), ("shows", "v", [(2, "r", "p", "a")])]
        self.assertEqual(self.lates(*both, meadow=two), {"u": 0, "v": 0})

    def test_reach(self):
        self.assertEqual(self.lates(home="c", *[("shows", "p", [(2, "r", "p", "a")])]), {"p": 0, "q": 2})

    def test_later(self):
        self.assertEqual(self.lates(("later", "p", "q")), {"p": 2, "q": 2})
        self.assertEqual(self.lates(("later", "q", "p")), {"p": 0, "q": 0})
        self.assertEqual(self.lates(("later", "q", "p"), home="b"), {"p": 2, "q": 2})
        one_going = Meadow(1, ["a", "b"], ["r"], [("p", "a", "b")], signs=[("u", ["r"], ["p"]), ("v", ["r"], ["p"])])
        self.assertEqual(self.lates(("later", "u", "v"), meadow=one_going), {"u": 0, "v": 0})

    def test_nolater(self):
        self.assertEqual(self.lates(("nolater", "q", "p")), {"p": 2, "q": 2})
        self.assertEqual(self.lates(("nolater", "p", "q")), {"p": 0, "q": 0})
        one_going = Meadow(1, ["a", "b"], ["r"], [("p", "a", "b")], signs=[("u", ["r"], ["p"]), ("v", ["r"], ["p"])])
        self.assertEqual(self.lates(("nolater", "u", "v"), meadow=one_going), {"u": 1, "v": 1})

    def test_the_steps(self):
        book = Book(self.meadow, {"r": "a"}, ("shows", "p", [(2, "r", "p", "a")]), ("shows", "q", [(1, "r", "q", "b")]))
        self.assertEqual(sweep(book).order, ((2, "r", "p", "a", ("p",)), (1, "r", "q", "b", ("q",))))
        shared = Meadow(2, ["a", "b"], ["r", "s"], [("p", "a", "b")],
                        signs=[("v", ["r"], ["p"]), ("u", ["s", "r"], ["p"])])
        steps = sweep(Book(shared, {"r": "a", "s": "b"})).order
        self.assertEqual(steps, ((2, "r", "p", "a", ("u", "v")),))


class Methods(GrassCase):
    swept = sweep(Book(line_meadow(3), {"r": "a", "s": "b"}))

    def test_errors(self):
        swept = self.swept
        self.check_error(Unknown, "x", swept.late, "x")
        for hour in (0, 4):
            self.check_error(BadNumber, hour, swept.freed, hour)
            self.check_error(BadNumber, hour, swept.reach, "r", hour)
            self.check_error(BadNumber, hour, swept.passable, "r", "p", hour)
        self.check_error(Unknown, "x", swept.reach, "x", 0)
        self.check_error(Unknown, "x", swept.passable, "x", "y", 0)
        self.check_error(Unknown, "y", swept.passable, "r", "y", 0)
        self.check_error(Unknown, "a", swept.reach, "a", 1)

    def test_what_is_returned_is_new(self):
        self.swept.lates().clear()
        self.assertEqual(self.swept.lates(), {"p": 3, "q": 3})

    def test_table(self):
        meadow = Meadow.grassy(3, ["a", "b", "c"], ["r"], [("p012", "a", "b"), ("q", "b", "c")])
        book = Book(meadow, {"r": "a"}, ("shows", "p012", [(2, "r", "p012", "a"), (3, "r", "p012", "a")]),
                    ("shows", "q", [OLD, (2, "r", "q", "b")]))
        self.assertEqual(sweep_table(book), ["p012   3 must", "q      2 may"])
        self.assertEqual(sweep_table(Book(meadow, {"r": "a"}, ("shows", "q", []))), ["p012   3 may", "q      0 must"])
        self.assertEqual(sweep_table(Book(Meadow(1, ["a"], ["r"], []), {"r": "a"})), [])

    def test_table_letter_by_letter(self):
        for book in books()[::4]:
            swept = sweep(book)
            lines = sweep_table(book)
            names = [name for name, *_ in book.meadow.signs]
            self.assertEqual(len(lines), len(names))
            for line, name in zip(lines, names):
                word = "must" if book.must(name) else "may"
                self.assertEqual(line, name.ljust(5) + str(swept.late(name)).rjust(3) + " " + word)


class FurtherNotes(GrassCase):
    def test_a_further_note_adds_nothing(self):
        rng = random.Random(11)
        for meadow in small_meadows() + [LARGE]:
            for _ in range(60):
                book = random_book(meadow, rng, 8)
                self.check_further(sweep(book), sweep(book + random_note(meadow, rng)))

    def check_further(self, swept, further):
        meadow = swept.book.meadow
        for name, *_ in meadow.signs:
            self.assertLessEqual(further.late(name), swept.late(name))
        for hour in range(1, meadow.hours + 1):
            for walker in meadow.walkers:
                self.assertLessEqual(set(further.reach(walker, hour)), set(swept.reach(walker, hour)))


if __name__ == "__main__":
    unittest.main()
