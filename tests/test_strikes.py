"""The fewest strikes: points 48 and 49, and tallgrass/least/strikes.py."""

import itertools
import unittest

from helpers import GrassCase, all_at, larger_meadows, line_meadow, meadow_of, small_meadows
from samples import random_books
from tallgrass.base.errors import Clash, TooLarge, TooMany
from tallgrass.field.days import Day
from tallgrass.field.meadow import OLD, Meadow
from tallgrass.least.lots import is_lot
from tallgrass.least.strikes import fewest_strikes, judge_strikes
from tallgrass.notes.book import Book
from tallgrass.sweep.papers import day_for
from test_lots import AT, BOOK, FAR, FREE, HOMES, MEADOW, ON, UNTOUCHED, fits

SEVEN = [("on", "r", "p", hour) for hour in (1, 2, 3)] + [("on", "s", "q", hour) for hour in (1, 2, 3)] + [("at", "r", "c", 1)]


def least_by_words(book):
    """The least of the shortest lists without which some day fits."""
    for count in range(len(book) + 1):
        found = [list(struck) for struck in itertools.combinations(book.notes, count)
                 if fits(book, [note for note in book if note not in struck])]
        if found:
            return min(found)


def stands_against_fewer(book, struck, lots):
    return all(any(not set(fewer) & set(notes) for notes in lots)
               for count in range(len(struck)) for fewer in itertools.combinations(book.notes, count))


def bad_starts(count, meadow=MEADOW, homes=None):
    """A book with starts each two of which contradict, of which all but one must be struck."""
    notes = [("start", "r", ["a"]), ("start", "r", ["b"]), ("start", "r", ["c"]), ("start", "s", ["a"]), ("start", "s", ["b"]),
             ("start", "s", ["c"]), ("shows", "p", [])]
    return Book(meadow, homes or HOMES, *notes[:count])


class Fewest(GrassCase):
    def check_book(self, book):
        struck, day, lots = found = fewest_strikes(book)
        self.assertIsInstance(found, tuple)
        self.assertEqual(struck, least_by_words(book))
        self.assertIsInstance(day, Day)
        self.assertTrue(Book(book.meadow, book.homes(), *[note for note in book if note not in struck]).fits(day))
        self.assertLessEqual(len(lots), 35)
        for notes in lots:
            self.assertTrue(is_lot(book, notes))
            self.assertEqual(notes, sorted(notes))
        self.assertTrue(stands_against_fewer(book, struck, lots))
        self.assertIs(judge_strikes(book, struck, day, lots), True)
        return len(struck)

    def test_none(self):
        struck, day, lots = fewest_strikes(FREE + ON)
        self.assertEqual((struck, lots), ([], []))
        self.assertTrue((FREE + ON).fits(day))
        self.assertEqual(self.check_book(FREE), 0)

    def test_one(self):
        struck, day, lots = fewest_strikes(BOOK)
        self.assertEqual(struck, [UNTOUCHED])
        self.assertTrue((BOOK - UNTOUCHED).fits(day))
        self.assertGreater(len(lots), 0)
        self.check_book(BOOK)
        self.assertEqual(fewest_strikes(FREE + ON + UNTOUCHED)[0], [ON])

    def test_several(self):
        for count, fewest in ((1, 0), (2, 1), (3, 2), (5, 3), (6, 4), (7, 5)):
            self.assertEqual(self.check_book(bad_starts(count)), fewest)
        self.assertEqual(fewest_strikes(bad_starts(3))[0], [("start", "r", ("a",)), ("start", "r", ("b",))])

    def test_all_of_them(self):
        meadow = meadow_of()
        marks = [("shows", f"u{at}", []) for at in range(5)]
        book = Book(meadow, all_at(meadow, "a"), *marks, ("start", "r", []), ("start", "s", []))
        self.assertEqual(len(book), 7)
        self.assertEqual(self.check_book(book), 7)

    def test_thirty_five_lots(self):
        # Each three of the seven notes allow one mark of their own, and each four allow none.
        paths = [(f"p{at}", "a", "b") for at in range(5)]
        meadow = Meadow(3, ["a", "b"], ["r", "s"], paths, signs=[("u", ["r", "s"], ["p0", "p1", "p2", "p3"])])
        marks = dict(zip(itertools.combinations(range(7), 3), meadow.all_marks("u")))
        notes = [("shows", "u", [marks[three] for three in marks if at in three]) for at in range(7)]
        book = Book(meadow, {"r": "a", "s": "b"}, *notes)
        self.assertEqual(self.check_book(book), 4)
        struck, day, lots = fewest_strikes(book)
        self.assertEqual(sorted(lots), [list(four) for four in itertools.combinations(book.notes, 4)])
        self.assertEqual(len(lots), 35)
        self.assertFalse(judge_strikes(book, struck, day, lots[1:]))

    def test_random_books(self):
        seen = set()
        for at, meadow in enumerate(small_meadows()):
            for book in random_books(meadow, 25, 7, seed=60 + at):
                seen.add(self.check_book(book))
        self.assertLessEqual({0, 1, 2}, seen)

    def test_what_is_returned_is_new(self):
        struck, _, lots = fewest_strikes(BOOK)
        struck.clear()
        lots[0].clear()
        self.assertEqual(len(fewest_strikes(BOOK)[0]), 1)
        self.assertEqual(len(fewest_strikes(BOOK)[2][0]), 2)

    def test_errors(self):
        day = Day(MEADOW, HOMES, [])
        seven = Book(MEADOW, HOMES, *SEVEN)
        fewest_strikes(seven)
        self.check_error(TooMany, 7, fewest_strikes, seven + ("start", "r", []))
        self.check_error(TooMany, 7, judge_strikes, seven + UNTOUCHED, [("x",)], day, [[]])
        for meadow in larger_meadows():
            book = Book(meadow, all_at(meadow, "a"), *[("at", "r", place, hour) for place in "abcd" for hour in (1, 2)])
            self.check_error(TooLarge, None, fewest_strikes, book)
            self.check_error(TooLarge, None, fewest_strikes, Book(meadow, all_at(meadow, "a")))
            self.check_error(TooLarge, None, judge_strikes, book, [("x",)], Day(meadow, all_at(meadow, "a"), []), [])
            self.check_error(Clash, None, judge_strikes, book, [], day, [])
        fewest_strikes(Book(meadow_of(), all_at(meadow_of(), "a")))
        self.check_error(Clash, None, judge_strikes, seven + UNTOUCHED, [], Day(line_meadow(2), HOMES, []), [])
        self.check_error(Clash, None, judge_strikes, FREE, [], Day(Meadow(1, ["a"], ["r"], []), {"r": "a"}, []), [])


class Judge(GrassCase):
    def setUp(self):
        self.day = fewest_strikes(BOOK)[1]
        self.lots = [[UNTOUCHED, ON]]

    def test_good(self):
        self.assertIs(judge_strikes(BOOK, [UNTOUCHED], self.day, self.lots), True)
        self.assertTrue(judge_strikes(BOOK, (UNTOUCHED,), self.day, ((ON, UNTOUCHED),)))
        self.assertTrue(judge_strikes(BOOK, [UNTOUCHED], self.day, [[FAR, UNTOUCHED], [UNTOUCHED, AT], [AT, UNTOUCHED]]))
        self.assertTrue(judge_strikes(FREE, [], Day(MEADOW, HOMES, []), []))
        self.assertTrue(judge_strikes(FREE + ON, [], day_for(FREE + ON), []))

    def test_not_the_least_list(self):
        book = FREE + ON + UNTOUCHED
        self.assertEqual(fewest_strikes(book)[0], [ON])
        self.assertTrue(judge_strikes(book, [UNTOUCHED], day_for(FREE + ON), [[ON, UNTOUCHED]]))
        self.assertTrue(judge_strikes(book, [ON], day_for(FREE + UNTOUCHED), [[ON, UNTOUCHED]]))

    def test_the_order_of_several(self):
        book = bad_starts(5)
        struck, day, lots = fewest_strikes(book)
        self.assertEqual(len(struck), 3)
        self.assertTrue(judge_strikes(book, struck[::-1], day, [notes[::-1] for notes in lots[::-1]]))

    def test_wrong_struck(self):
        for struck in ([], [ON], [UNTOUCHED, UNTOUCHED], [UNTOUCHED, ON], [("x",)], [()], [UNTOUCHED, ("x",)],
                       [("shows", "p", [OLD])], [("shows", "p", (OLD, OLD))], [("at", "r", "c", 3)]):
            self.assertIs(judge_strikes(BOOK, struck, self.day, self.lots), False)

    def test_more_struck_than_there_are(self):
        never, day = ("start", "r", ()), Day(MEADOW, HOMES, [])
        self.assertTrue(judge_strikes(FREE + never, [never], day, [[never]]))
        for struck in ([never, never], [never, never, never], [never, ("x",), ("y",)], [("x",), ("y",), never]):
            self.assertFalse(judge_strikes(FREE + never, struck, day, [[never]]))

    def test_a_day_that_does_not_fit(self):
        for day in (Day(MEADOW, HOMES, []), Day(MEADOW, {"r": "a", "s": "a"}, []), day_for(FREE + UNTOUCHED)):
            self.assertIs(judge_strikes(BOOK, [UNTOUCHED], day, self.lots), False)

    def test_the_homes_of_the_day(self):
        day = Day(MEADOW, {"r": "a", "s": "b"}, [])
        self.assertFalse(judge_strikes(FREE, [], day, []))

    def test_wrong_lots(self):
        for lots in ([], [[]], [[UNTOUCHED]], [[UNTOUCHED, ON, AT]], [[UNTOUCHED, ON], [AT, ON]],
                     [[UNTOUCHED, ON, ON]], [[("shows", "p", [OLD]), ON]], [[UNTOUCHED, ON], [("x",)]]):
            self.assertIs(judge_strikes(BOOK, [UNTOUCHED], self.day, lots), False)
        self.assertFalse(judge_strikes(FREE, [], Day(MEADOW, HOMES, []), [[]]))

    def test_lots_that_do_not_stand_against_fewer(self):
        book = bad_starts(3)
        struck, day, lots = fewest_strikes(book)
        self.assertEqual((len(struck), len(lots)), (2, 3))
        self.assertTrue(judge_strikes(book, struck, day, lots))
        for left_out in lots:
            self.assertFalse(judge_strikes(book, struck, day, [notes for notes in lots if notes != left_out]))

    def test_more_struck_than_needed(self):
        day = day_for(BOOK - UNTOUCHED - ON)
        self.assertFalse(judge_strikes(BOOK, [UNTOUCHED, ON], day, [[UNTOUCHED, ON], [UNTOUCHED, FAR], [UNTOUCHED, AT]]))
        self.assertFalse(judge_strikes(FREE + ON, [ON], Day(MEADOW, HOMES, []), []))

    def test_random_books(self):
        for book in random_books(small_meadows()[2], 15, 6, seed=5):
            struck, day, lots = fewest_strikes(book)
            for count in range(len(lots) + 1):
                some = lots[:count]
                self.assertIs(judge_strikes(book, struck, day, some), stands_against_fewer(book, struck, some))


if __name__ == "__main__":
    unittest.main()
