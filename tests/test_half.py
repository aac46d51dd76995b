"""Half books: points 42 and 43, and tallgrass/asking/half.py."""

import random
import unittest

from helpers import GrassCase, line_meadow, small_meadows
from samples import fitting, random_note
from tallgrass.asking.answers import parting as parting_of_book
from tallgrass.asking.half import Half
from tallgrass.asking.question import Question
from tallgrass.base.errors import BadNote, BadPlacing, Clash, TooMany, Unknown
from tallgrass.field.meadow import OLD, Meadow
from tallgrass.notes.book import Book
from tallgrass.sweep.papers import some_day_fits
from test_answers import HOURS, MORE, few_questions, question_of

MEADOW = line_meadow(3)
HOMES = {"r": ["c", "a"], "s": ["b"]}


def random_half(at, rng):
    """A half book about a small meadow, and the days with few goings that fit one of its books."""
    meadow = small_meadows()[at]
    homes = {walker: rng.sample(meadow.places, rng.randint(1, 2)) for walker in meadow.walkers}
    half = Half(meadow, homes, *[random_note(meadow, rng) for _ in range(rng.randint(0, 4))])
    return half, [day for book in half.books() for day in fitting(at, book)]


class Halves(GrassCase):
    def test_books(self):
        notes = [("shows", "p", [(1, "r", "p", "a"), OLD, OLD]), ("at", "r", "b", 1)]
        books = Half(MEADOW, {"r": ["c", "a", "c"], "s": ("b", "a")}, *notes).books()
        expected = [{"r": r, "s": s} for r in "ac" for s in "ab"]
        self.assertEqual([book.homes() for book in books], expected)
        self.assertEqual(books, [Book(MEADOW, homes, *notes) for homes in expected])
        self.assertIsInstance(books, list)

    def test_one_choice(self):
        half = Half(MEADOW, {"r": ["a"], "s": ["c", "c"]})
        self.assertEqual(half.books(), [Book(MEADOW, {"r": "a", "s": "c"})])
        self.assertEqual(half.homes_that_fit(), [{"r": "a", "s": "c"}])

    def test_homes_that_fit(self):
        half = Half(MEADOW, {"r": ["c", "b", "a"], "s": ["c"]}, ("shows", "p", [(3, "r", "p", "b"), (3, "s", "p", "b")]), ("away", "r", "c", 2))
        self.assertEqual(half.homes_that_fit(), [{"r": "a", "s": "c"}, {"r": "b", "s": "c"}])
        self.assertEqual(Half(MEADOW, HOMES, ("start", "s", [])).homes_that_fit(), [])

    def test_homes_of_random_halves(self):
        rng = random.Random(21)
        for at in range(4):
            for _ in range(30):
                half, days = random_half(at, rng)
                found = half.homes_that_fit()
                self.assertEqual(found, [book.homes() for book in half.books() if some_day_fits(book)])
                for day in days:
                    self.assertIn(day.homes(), found)

    def test_placings(self):
        for notes in ((), ((),)):
            for homes, name in (
                    ({"r": ["a"]}, "s"), ({}, "r"), ({"r": [], "s": []}, "r"), ({"r": ["a"], "s": []}, "s"),
                    ({"r": ["a", "d"], "s": ["b"]}, "r"), ({"r": ["d", "a"], "s": ["b"]}, "r"), ({"r": ["a"], "s": ["r"]}, "s"),
                    ({"r": ["a"], "s": ["b"], "t": ["a"]}, "t"), ({"a": ["a"], "s": []}, "a"), ({"q": ["a"], "s": ["b"]}, "q"),
                    ({"r": ["a"], "t": [], "s": ["x"]}, "s")):
                self.check_error(BadPlacing, name, Half, MEADOW, homes, *notes)

    def test_eight_choices(self):
        meadow = Meadow.grassy(2, ["a", "b", "c"], ["r", "s", "t"], [("p", "a", "b"), ("q", "b", "c")])
        two = {"r": ["a", "b"], "s": ["c", "b", "c"], "t": ["a", "b", "a", "b"]}
        self.assertEqual(len(Half(meadow, two).books()), 8)
        self.check_error(TooMany, 8, Half, meadow, {**two, "t": ["a", "b", "c"]})
        self.check_error(TooMany, 8, Half, meadow, {"r": ["a", "b", "c"], "s": ["a", "b", "c"], "t": ["a"]}, ())
        self.check_error(BadPlacing, "t", Half, meadow, {"r": ["a", "b", "c"], "s": ["a", "b", "c"], "t": ["d"]})
        wide = Meadow(1, ["a", "b", "c", "d", "e", "f", "g"], ["r", "s"], [])
        self.assertEqual(len(Half(wide, {"r": list("gfedcba"), "s": ["a", "a"]}).books()), 7)
        self.check_error(TooMany, 8, Half, wide, {"r": list("abcde"), "s": ["a", "b"]})
        self.assertEqual([book.home("r") for book in Half(wide, {"r": list("dbca"), "s": ["a", "b"]}).books()], list("aabbccdd"))

    def test_notes(self):
        sixteen = HOURS + MORE[:4]
        self.assertEqual([len(book) for book in Half(MEADOW, HOMES, *sixteen, *sixteen).books()], [16, 16])
        self.check_error(TooMany, 16, Half, MEADOW, HOMES, *sixteen, MORE[4])
        self.check_error(TooMany, 16, Half, MEADOW, HOMES, *HOURS, *MORE)
        self.check_error(Unknown, "x", Half, MEADOW, HOMES, *HOURS, *MORE, ("at", "x", "a", 1))
        self.check_error(BadNote, ("later", "p", "p"), Half, MEADOW, HOMES, ("later", "p", "p"), ())
        twice = [("start", "r", ["a", "b"]), ("start", "r", ["b", "a", "a"])]
        self.assertEqual(len(Half(MEADOW, HOMES, *sixteen[:15], *twice).books()[0]), 16)

    def test_answer(self):
        half = Half(MEADOW, HOMES, ("shows", "q", [(3, "r", "q", "b"), (3, "r", "q", "c")]))
        home, other = Question(MEADOW, ("at", "r", "a", 3)), Question(MEADOW, ("at", "r", "c", 3))
        self.assertEqual(half.answer(Question(MEADOW, ("on", "r", "q", 3))), "surely")
        self.assertEqual(half.answer(home), "perhaps")
        self.assertEqual(half.answer(other), "surely")
        self.assertEqual(half.answer(Question(MEADOW, ("shows", "q", [OLD]))), "never")
        self.assertEqual(Half(MEADOW, HOMES, ("start", "r", [])).answer(home), "no day")
        self.assertEqual(Half(MEADOW, HOMES, ("start", "r", [])).parting(home), (None, None))

    def test_days_of_different_books(self):
        meadow = Meadow(1, ["a", "b"], ["r"], [])
        half = Half(meadow, {"r": ["b", "a"]})
        question = Question(meadow, ("at", "r", "a", 1))
        true_day, false_day = half.parting(question)
        self.assertEqual((true_day.homes(), false_day.homes()), ({"r": "a"}, {"r": "b"}))
        self.assertEqual((half.answer(question), half.answer(~question)), ("perhaps", "perhaps"))
        half = Half(meadow, {"r": ["b", "a"]}, ("away", "r", "a", 1))
        self.assertEqual((half.answer(question), half.answer(~question)), ("never", "surely"))

    def test_random_questions(self):
        rng = random.Random(22)
        turned = {"surely": "never", "never": "surely", "perhaps": "perhaps", "no day": "no day"}
        found = []
        for at in range(4):
            for _ in range(25):
                half, days = random_half(at, rng)
                question = [pair[0] for pair in few_questions(small_meadows()[at], rng, 8) if len(pair[0].notes) <= 3][0]
                found.append(self.check_answer(half, question, days))
                self.assertEqual(half.answer(~question), turned[found[-1]])
        for word in turned:
            self.assertGreater(found.count(word), 2)

    def check_answer(self, half, question, days):
        pair = half.parting(question)
        self.assertIsInstance(pair, tuple)
        for at, day in enumerate(pair):
            expected = [parting_of_book(book, question)[at] for book in half.books()]
            self.assertIs(day is None, not any(found is not None for found in expected))
            if day is not None:
                self.assertTrue(any(book.fits(day) for book in half.books()))
                self.assertIs(question(day), at == 0)
            else:
                self.assertFalse(any(question(other) is (at == 0) for other in days))
        word = half.answer(question)
        self.assertEqual(word, {(True, True): "perhaps", (True, False): "surely", (False, True): "never",
                                (False, False): "no day"}[(pair[0] is not None, pair[1] is not None)])
        return word

    def test_a_further_note(self):
        rng = random.Random(23)
        for _ in range(40):
            homes = {"r": rng.sample("abc", 2), "s": rng.sample("abc", 2)}
            notes = [random_note(MEADOW, rng) for _ in range(4)]
            question = Question(MEADOW, random_note(MEADOW, rng)) | Question(MEADOW, random_note(MEADOW, rng))
            before = Half(MEADOW, homes, *notes[:3]).answer(question)
            after = Half(MEADOW, homes, *notes).answer(question)
            if before != "perhaps":
                self.assertIn(after, (before, "no day"))

    def test_bounds_of_questions(self):
        half = Half(MEADOW, HOMES, *HOURS, *MORE[:4])
        three, four = question_of(MORE[-3:]), question_of(MORE[-4:])
        for call in (half.answer, half.parting):
            call(three)
            self.check_error(TooMany, 3, call, four)
            self.check_error(TooMany, 3, call, question_of(HOURS[:6]))
            self.check_error(Clash, None, call, Question(line_meadow(2), ("later", "p", "q")))
            other = Question(line_meadow(2), HOURS[0]) & Question(line_meadow(2), HOURS[1])
            other = other & Question(line_meadow(2), MORE[0]) & Question(line_meadow(2), MORE[1])
            self.check_error(Clash, None, call, other)

    def test_copies(self):
        homes = {"r": ["c", "a"], "s": ["b"]}
        half = Half(MEADOW, homes)
        homes["r"].append("b")
        homes["s"] = []
        self.assertEqual(len(half.books()), 2)
        half.books().clear()
        half.homes_that_fit()[0]["r"] = "x"
        self.assertEqual(half.homes_that_fit(), [{"r": "a", "s": "b"}, {"r": "c", "s": "b"}])


if __name__ == "__main__":
    unittest.main()
