"""Who can have gone alone: point 52, and tallgrass/least/movers.py."""

import itertools
import unittest

from helpers import GrassCase, line_meadow
from samples import all_sampled, random_books
from tallgrass.base.errors import Twice, Unknown
from tallgrass.field.meadow import OLD, Meadow
from tallgrass.least.movers import can_alone, least_movers
from tallgrass.notes.book import Book
from tallgrass.sweep.papers import day_for, some_day_fits
from test_sweep import LARGE

MEADOW = line_meadow(3)
HOMES = {"r": "a", "s": "c"}
FREE = Book(MEADOW, HOMES)
NONE = Book(MEADOW, HOMES, ("start", "r", []))


def subsets(walkers):
    return [chosen for count in range(len(walkers) + 1) for chosen in itertools.combinations(walkers, count)]


def least_by_words(book):
    alone = [chosen for chosen in subsets(book.meadow.walkers) if can_alone(book, list(chosen))]
    return sorted(chosen for chosen in alone if not any(set(other) < set(chosen) for other in alone))


class Movers(GrassCase):
    def check_alone(self, book, **expected):
        """What can_alone says of the sets, whose walkers are the letters of the keywords behind a first one."""
        for name, answer in expected.items():
            self.assertIs(can_alone(book, list(name[1:])), answer, name)

    def test_nobody_need_go(self):
        self.check_alone(FREE, x=True, xr=True, xs=True, xrs=True)
        self.assertEqual(least_movers(FREE), [()])

    def test_one_must_go(self):
        book = FREE + ("shows", "p", [(1, "r", "p", "a"), (2, "r", "p", "b")])
        self.check_alone(book, x=False, xr=True, xs=False, xrs=True, xsr=True)
        self.assertEqual(least_movers(book), [("r",)])

    def test_either(self):
        book = FREE + ("shows", "p", MEADOW.all_marks("p")[1:])
        self.check_alone(book, x=False, xr=True, xs=True, xrs=True)
        self.assertEqual(least_movers(book), [("r",), ("s",)])

    def test_both(self):
        book = FREE + ("on", "r", "p", 1) + ("start", "s", ["b"])
        self.check_alone(book, x=False, xr=False, xs=False, xrs=True)
        self.assertEqual(least_movers(book), [("r", "s")])

    def test_starts(self):
        self.check_alone(FREE + ("start", "r", ["b", "c"]), x=False, xs=False, xr=True)
        self.check_alone(FREE + ("start", "r", ["b", "a"]), x=True)
        self.check_alone(FREE + ("at", "r", "a", 3) + ("at", "s", "c", 1), x=True)
        self.check_alone(FREE + ("at", "r", "b", 3), x=False, xr=True)

    def test_no_day(self):
        for book in (NONE, FREE + ("away", "r", "a", 1), FREE + ("shows", "p", [OLD]) + ("later", "p", "q")):
            self.check_alone(book, x=False, xr=False, xs=False, xrs=False)
            self.assertEqual(least_movers(book), [])

    def test_errors(self):
        for book in (FREE, NONE):
            self.check_error(Unknown, "t", can_alone, book, ["t", "r", "r"])
            self.check_error(Twice, "r", can_alone, book, ["r", "r", "t"])
            self.check_error(Twice, "r", can_alone, book, ["r", "s", "r"])
            self.check_error(Unknown, "a", can_alone, book, ["r", "a"])
        self.assertTrue(can_alone(FREE, ()))

    def test_all_days_with_few_goings(self):
        found = []
        for book, days in all_sampled():
            for chosen in subsets(book.meadow.walkers):
                answer = can_alone(book, list(chosen[::-1]))
                still = [("off", walker, path, 1) for walker in book.meadow.walkers if walker not in chosen
                         for path, *_ in book.meadow.paths]
                day = day_for(Book(book.meadow, book.homes(), *book.notes, *still))
                self.assertIs(answer, day is not None)
                if answer:
                    self.assertTrue(book.fits(day))
                    self.assertLessEqual({going[1] for going in day}, set(chosen))
                else:
                    self.assertFalse(any({going[1] for going in other} <= set(chosen) for other in days))
                found.append(answer)
            self.assertEqual(least_movers(book), least_by_words(book))
        self.assertGreater(min(found.count(True), found.count(False)), 50)

    def test_three_walkers(self):
        sizes = set()
        for book in random_books(LARGE, 40, 6):
            found = least_movers(book)
            self.assertEqual(found, least_by_words(book))
            self.assertIs(found == [], not some_day_fits(book))
            sizes |= {len(chosen) for chosen in found}
        self.assertLessEqual({0, 1, 2}, sizes)

    def test_several_sets(self):
        meadow = line_meadow(2)
        book = Book(meadow, HOMES, ("on", "s", "q", 1), ("shows", "p", meadow.all_marks("p")[1:]))
        self.assertEqual(least_movers(book), [("s",)])
        book = Book(LARGE, {walker: LARGE.places[0] for walker in LARGE.walkers})
        notes = [("start", walker, LARGE.places[1:]) for walker in LARGE.walkers[:2]]
        self.assertEqual(least_movers(book + notes[0] + notes[1]), [LARGE.walkers[:2]])

    def test_ascending(self):
        meadow = Meadow(1, ["a", "b"], ["r", "s", "t"], [("p", "a", "b")],
                        signs=[("u", ["r", "t"], ["p"]), ("v", ["s", "t"], ["p"])])
        touched = [("shows", sign, meadow.all_marks(sign)[1:]) for sign in "uv"]
        self.assertEqual(least_movers(Book(meadow, {"r": "a", "s": "a", "t": "a"}, *touched)), [("r", "s"), ("t",)])

    def test_twenty_notes(self):
        notes = [("off", "s", path, hour) for path in "pq" for hour in (1, 2, 3, 4, 5, 6)]
        notes += [("off", "r", "q", hour) for hour in (1, 2, 3, 4, 5, 6)] + [("on", "r", "p", 5), ("start", "r", ["a"])]
        book = Book(line_meadow(6), HOMES, *notes)
        self.assertEqual(len(book), 20)
        self.assertEqual(least_movers(book), [("r",)])

    def test_what_is_returned_is_new(self):
        least_movers(FREE).clear()
        self.assertEqual(least_movers(FREE), [()])


if __name__ == "__main__":
    unittest.main()
