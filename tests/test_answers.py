"""Answers: points 40, 41 and 43, and tallgrass/asking/answers.py."""

import itertools
import random
import unittest

from helpers import GrassCase, line_meadow
from samples import all_sampled, random_note
from tallgrass.asking.answers import answer, books_for, parting, possible
from tallgrass.asking.question import Question
from tallgrass.base.errors import Clash, TooMany
from tallgrass.notes.book import Book
from tallgrass.notes.kinds import opposite
from tallgrass.sweep.papers import some_day_fits
from test_question import random_question

MEADOW = line_meadow(3)
HOMES = {"r": "a", "s": "c"}
FREE = Book(MEADOW, HOMES)
NONE = Book(MEADOW, HOMES, ("start", "r", []))
HOURS = [("on", walker, path, hour) for walker in "rs" for path in "pq" for hour in (1, 2, 3)]
MORE = [("at", walker, place, hour) for walker in "rs" for place in "abc" for hour in (1, 2, 3)]


def question_of(notes):
    question = Question(MEADOW, notes[0])
    for note in notes[1:]:
        question = question | Question(MEADOW, note)
    return question


def few_questions(meadow, rng, count):
    """Questions with at most four different notes, each with what random_question has behind it."""
    found = []
    while len(found) < count:
        pair = random_question(meadow, rng, 2)
        if len(pair[0].notes) <= 4:
            found.append(pair)
    return found


class Answers(GrassCase):
    def test_ordinary(self):
        book = FREE + ("shows", "p", [(2, "r", "p", "a")])
        self.assertEqual(answer(book, Question(MEADOW, ("on", "r", "p", 2))), "surely")
        self.assertEqual(answer(book, Question(MEADOW, ("on", "r", "p", 3))), "never")
        self.assertEqual(answer(book, Question(MEADOW, ("on", "r", "q", 1))), "perhaps")
        self.assertEqual(answer(NONE, Question(MEADOW, ("on", "r", "q", 1))), "no day")

    def test_operators(self):
        book = FREE + ("shows", "p", [(2, "r", "p", "a"), (2, "s", "p", "b")])
        by_r, by_s = Question(MEADOW, ("on", "r", "p", 2)), Question(MEADOW, ("on", "s", "p", 2))
        self.assertEqual(answer(book, by_r), "perhaps")
        self.assertEqual(answer(book, by_r | by_s), "surely")
        self.assertEqual(answer(book, ~by_r & ~by_s), "never")
        self.assertEqual(answer(book, by_r & by_s), "perhaps")
        self.assertEqual(answer(book, by_r | ~by_r), "surely")
        self.assertEqual(answer(book, by_r & ~by_r), "never")
        self.assertEqual(answer(NONE, by_r | ~by_r), "no day")

    def test_all_days_with_few_goings(self):
        rng = random.Random(2)
        found = []
        for book, days in all_sampled():
            for question, _ in few_questions(book.meadow, rng, 6):
                found.append(self.check_answer(book, question, days))
        for word in ("surely", "never", "perhaps", "no day"):
            self.assertGreater(found.count(word), 20)

    def check_answer(self, book, question, days):
        """Checks the three functions against each other and against some days that fit."""
        pair = parting(book, question)
        self.assertIsInstance(pair, tuple)
        for day, wanted in zip(pair, (True, False)):
            if day is not None:
                self.assertTrue(book.fits(day))
                self.assertIs(question(day), wanted)
            else:
                self.assertFalse(any(question(other) is wanted for other in days))
        word = {(True, True): "perhaps", (True, False): "surely", (False, True): "never", (False, False): "no day"}[
            (pair[0] is not None, pair[1] is not None)]
        self.assertEqual(answer(book, question), word)
        self.assertIs(some_day_fits(book), word != "no day")
        day = possible(book, question)
        self.assertIs(day is None, pair[0] is None)
        if day is not None:
            self.assertTrue(book.fits(day) and question(day))
        return word

    def test_a_and_not_a(self):
        rng = random.Random(8)
        turned = {"surely": "never", "never": "surely", "perhaps": "perhaps", "no day": "no day"}
        for book, _ in all_sampled():
            for question, _ in few_questions(book.meadow, rng, 3):
                self.assertEqual(answer(book, ~question), turned[answer(book, question)])

    def test_a_further_note(self):
        rng = random.Random(9)
        for book, _ in all_sampled():
            question = few_questions(book.meadow, rng, 1)[0][0]
            before = answer(book, question)
            after = answer(book + random_note(book.meadow, rng), question)
            if before in ("surely", "never"):
                self.assertIn(after, (before, "no day"))
            if before == "no day":
                self.assertEqual(after, "no day")

    def test_no_day(self):
        for question in (Question(MEADOW, ("start", "r", ["a"])), ~Question(MEADOW, ("start", "r", ["a"]))):
            self.assertIsNone(possible(NONE, question))
            self.assertEqual(parting(NONE, question), (None, None))
            self.assertEqual(answer(NONE, question), "no day")

    def test_the_greatest_question(self):
        question = question_of(HOURS[:2] + MORE[:2])
        for _ in range(27):
            question = ~question
        self.assertEqual((question.operators, len(question.notes)), (30, 4))
        self.assertEqual(answer(FREE, question), "never")
        self.assertEqual(answer(FREE + ("start", "r", ["b"]), question), "never")
        self.assertEqual(parting(FREE, question)[0], None)

    def test_bounds(self):
        sixteen = Book(MEADOW, HOMES, *HOURS, *MORE[:4])
        seventeen = sixteen + MORE[4]
        five, four = question_of(HOURS[:5]), question_of(MORE[-4:])
        self.assertEqual((len(sixteen), len(five.notes), len(four.notes)), (16, 5, 4))
        for call in (possible, answer, parting, lambda *pair: list(books_for(*pair))):
            self.check_error(TooMany, 16, call, seventeen, four)
            self.check_error(TooMany, 16, call, seventeen, five)
            self.check_error(TooMany, 4, call, sixteen, five)
            self.check_error(Clash, None, call, Book(line_meadow(2), HOMES), five)
            self.check_error(Clash, None, call, Book(line_meadow(4), HOMES, *HOURS, *MORE[:5]), four)
            call(sixteen, four)
        self.assertEqual({len(book) for book in books_for(sixteen, four)}, {20})
        self.assertEqual(answer(sixteen, Question(MEADOW, ("on", "s", "q", 2))), "surely")


def books_by_words(book, question, expected):
    """The books that books_for should yield, in their order, by the words of point 41."""
    found = []
    for way in itertools.product((True, False), repeat=len(question.notes)):
        if expected(dict(zip(question.notes, way)).get):
            notes = [note if called else opposite(book.meadow, note) for note, called in zip(question.notes, way)]
            found.append(Book(book.meadow, book.homes(), *book.notes, *notes))
    return found


class BooksFor(GrassCase):
    def test_random_questions(self):
        rng = random.Random(12)
        for book, days in all_sampled():
            for question, expected in few_questions(book.meadow, rng, 2):
                books = list(books_for(book, question))
                self.assertEqual(books, books_by_words(book, question, expected))
                self.assertIs(possible(book, question) is not None, any(some_day_fits(found) for found in books))
                for day in days[::9]:
                    self.assertEqual([found.fits(day) for found in books].count(True), int(question(day)))

    def test_the_order(self):
        first, second = ("at", "r", "b", 1), ("start", "s", ("a",))
        question = Question(MEADOW, second) | Question(MEADOW, first)
        self.assertEqual(list(books_for(FREE, question)), [
            FREE + first + second,
            FREE + first + ("start", "s", ("b", "c")),
            FREE + ("away", "r", "b", 1) + second])
        question = ~Question(MEADOW, first)
        self.assertEqual(list(books_for(FREE, question)), [FREE + ("away", "r", "b", 1)])
        self.assertEqual(list(books_for(FREE, question & ~question)), [])
        self.assertEqual(list(books_for(FREE, question | ~question)), [FREE + first, FREE + ("away", "r", "b", 1)])

    def test_ways_that_no_day_can_be(self):
        early, late = Question(MEADOW, ("on", "r", "p", 1)), Question(MEADOW, ("on", "r", "p", 2))
        books = list(books_for(FREE, early | late))
        self.assertEqual([some_day_fits(book) for book in books], [True, True, False])
        self.assertEqual(books[2].notes, (("off", "r", "p", 1), ("on", "r", "p", 2)))
        self.assertEqual(len(list(books_for(NONE, early | ~early))), 2)

    def test_a_note_and_its_opposite(self):
        question = Question(MEADOW, ("on", "r", "p", 1)) | Question(MEADOW, ("off", "r", "p", 1))
        books = list(books_for(FREE, question))
        self.assertEqual([book.notes for book in books],
                         [(("off", "r", "p", 1), ("on", "r", "p", 1)), (("off", "r", "p", 1),), (("on", "r", "p", 1),)])

    def test_errors_come_with_the_iteration(self):
        waiting = books_for(Book(line_meadow(2), HOMES), Question(MEADOW, ("later", "p", "q")))
        self.check_error(Clash, None, next, waiting)
        waiting = books_for(FREE, question_of(HOURS[:5]))
        self.check_error(TooMany, 4, next, waiting)

    def test_one_by_one(self):
        books = books_for(FREE, question_of(HOURS[:3]))
        self.assertEqual(next(books), Book(MEADOW, HOMES, *HOURS[:3]))
        self.assertEqual(next(books), Book(MEADOW, HOMES, *HOURS[:2], opposite(MEADOW, HOURS[2])))
        self.assertEqual(len(list(books)), 5)


if __name__ == "__main__":
    unittest.main()
