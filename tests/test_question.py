"""Questions and their texts: points 38 and 39, and tallgrass/asking/question.py."""

import random
import unittest

from helpers import GrassCase, all_days, line_meadow, small_meadows
from samples import random_note
from tallgrass.asking.question import Question
from tallgrass.base.errors import BadLine, BadMark, BadNote, BadNumber, Clash, TooMany, Unknown
from tallgrass.field.days import Day
from tallgrass.field.meadow import OLD, Meadow
from tallgrass.notes.kinds import holds, normal_note

MEADOW = line_meadow(3)
AT = Question(MEADOW, ("at", "r", "a", 2))
START = Question(MEADOW, ("start", "s", ["c", "a", "c"]))
SHOWS = Question(MEADOW, ("shows", "p", [(2, "r", "p", "a"), OLD]))
LATER = Question(MEADOW, ("later", "p", "q"))
OTHER = Question(line_meadow(2), ("later", "p", "q"))
DAY = Day(MEADOW, {"r": "a", "s": "c"}, [(1, "r", "p", "b"), (2, "r", "q", "c")])


def with_operators(count):
    """A question with so many operators."""
    question = AT
    for _ in range(count):
        question = ~question
    return question


def random_question(meadow, rng, depth):
    """A question, put together by operators, and a function that says whether it is true.

    The function is told which notes are true by another one.
    """
    kind = rng.choice(["note", "not", "and", "or"]) if depth else "note"
    if kind == "note":
        note = random_note(meadow, rng)
        return Question(meadow, note), lambda told: told(normal_note(meadow, note))
    first, is_first = random_question(meadow, rng, depth - 1)
    if kind == "not":
        return ~first, lambda told: not is_first(told)
    second, is_second = random_question(meadow, rng, depth - 1)
    if kind == "and":
        return first & second, lambda told: is_first(told) and is_second(told)
    return first | second, lambda told: is_first(told) or is_second(told)


class Questions(GrassCase):
    def test_a_single_note(self):
        self.assertEqual(SHOWS.notes, (("shows", "p", (OLD, (2, "r", "p", "a"))),))
        self.assertEqual(START.notes, (("start", "s", ("a", "c")),))
        self.assertEqual((SHOWS.operators, SHOWS.meadow), (0, MEADOW))
        self.assertIs(Question(MEADOW, ("at", "r", "b", 1))(DAY), True)
        self.assertIs(Question(MEADOW, ("at", "r", "b", 3))(DAY), False)

    def test_errors_of_the_note(self):
        self.check_error(BadNote, (), Question, MEADOW, ())
        self.check_error(Unknown, "x", Question, MEADOW, ("at", "x", "y", 9))
        self.check_error(BadMark, (4, "r", "p", "a"), Question, MEADOW, ("shows", "p", [(4, "r", "p", "a")]))
        self.check_error(BadNumber, 4, Question, MEADOW, ("on", "r", "p", 4))
        self.check_error(BadNote, ("later", "p", "p"), Question, MEADOW, ("later", "p", "p"))

    def test_operators(self):
        for first in (Question(MEADOW, ("at", "r", "b", 1)), Question(MEADOW, ("at", "r", "b", 3))):
            self.assertIs((~first)(DAY), not first(DAY))
            for second in (Question(MEADOW, ("at", "s", "c", 3)), Question(MEADOW, ("at", "s", "b", 1))):
                self.assertIs((first & second)(DAY), first(DAY) and second(DAY))
                self.assertIs((first | second)(DAY), first(DAY) or second(DAY))
                self.assertIs((~(first | ~second) & first)(DAY), False)

    def test_notes_and_operators(self):
        question = (SHOWS & ~AT) | ~(AT & START)
        self.assertEqual(question.notes, (("at", "r", "a", 2), ("shows", "p", (OLD, (2, "r", "p", "a"))),
                                          ("start", "s", ("a", "c"))))
        self.assertEqual(question.operators, 5)
        self.assertEqual(question.meadow, MEADOW)
        self.assertEqual((AT.operators, SHOWS.operators, AT.notes), (0, 0, (("at", "r", "a", 2),)))
        twice = SHOWS & Question(MEADOW, ("shows", "p", [OLD, OLD, (2, "r", "p", "a")]))
        self.assertEqual((twice.operators, len(twice.notes)), (1, 1))
        self.assertEqual((~~AT).operators, 2)

    def test_thirty_operators(self):
        self.assertEqual(with_operators(30).operators, 30)
        self.check_error(TooMany, 30, lambda: ~with_operators(30))
        doubled = AT
        for _ in range(4):
            doubled = doubled & doubled
        self.assertEqual(doubled.operators, 15)
        self.check_error(TooMany, 30, lambda: doubled & doubled)
        self.check_error(TooMany, 30, lambda: doubled | doubled)
        self.assertEqual((doubled & with_operators(14)).operators, 30)
        self.check_error(TooMany, 30, lambda: with_operators(15) | doubled)
        self.assertEqual(((doubled | with_operators(14)).operators, len(doubled.notes)), (30, 1))
        self.assertIs(doubled(DAY), AT(DAY))

    def test_clash(self):
        self.check_error(Clash, None, lambda: AT & OTHER)
        self.check_error(Clash, None, lambda: OTHER | AT)
        self.check_error(Clash, None, lambda: with_operators(30) & OTHER)
        self.check_error(Clash, None, lambda: with_operators(30) | OTHER)
        self.assertEqual((AT & Question(line_meadow(3), ("later", "p", "q"))).operators, 1)

    def test_days(self):
        self.check_error(Clash, None, AT, Day(line_meadow(2), {"r": "a", "s": "c"}, []))
        self.check_error(Clash, None, with_operators(30), Day(line_meadow(4), {"r": "a", "s": "c"}, []))
        self.assertIs(AT(Day(line_meadow(3), {"r": "a", "s": "c"}, [])), True)

    def test_all_days_with_few_goings(self):
        rng = random.Random(3)
        for meadow in small_meadows():
            days = all_days(meadow, 2)[::7]
            for _ in range(40):
                question, expected = random_question(meadow, rng, 3)
                for day in rng.choices(days, k=10):
                    self.assertIs(question(day), expected(lambda note: holds(day, note)))


class Texts(GrassCase):
    def test_text(self):
        self.assertEqual(AT.text(), "at r a 2")
        self.assertEqual(SHOWS.text(), "shows p old 2:r:p:a")
        self.assertEqual((~(AT & START)).text(), "not ( at r a 2 and start s a c )")
        self.assertEqual((~AT & START).text(), "( not at r a 2 and start s a c )")
        self.assertEqual((~~AT | (START & SHOWS)).text(), "( not not at r a 2 or ( start s a c and shows p old 2:r:p:a ) )")
        self.assertEqual(((AT | START) & AT).text(), "( ( at r a 2 or start s a c ) and at r a 2 )")
        self.assertEqual((AT | (START & AT)).text(), "( at r a 2 or ( start s a c and at r a 2 ) )")

    def test_read(self):
        question = Question.read(MEADOW, "( not start s c a and ( shows p 2:r:p:a old or shows p ) )")
        self.assertIsInstance(question, Question)
        self.assertEqual(question.text(), "( not start s a c and ( shows p old 2:r:p:a or shows p ) )")
        self.assertEqual(question.operators, 3)
        self.assertEqual(question.notes, (("shows", "p", ()), ("shows", "p", (OLD, (2, "r", "p", "a"))),
                                          ("start", "s", ("a", "c"))))
        self.assertEqual(question.meadow, MEADOW)
        self.assertIs(question(DAY), False)
        self.assertEqual(Question.read(MEADOW, "later p q").notes, (("later", "p", "q"),))

    def test_text_and_back(self):
        rng = random.Random(4)
        for meadow in small_meadows():
            days = all_days(meadow, 2)[::7]
            for _ in range(60):
                question, expected = random_question(meadow, rng, 4)
                again = Question.read(meadow, question.text())
                self.assertEqual((again.text(), again.notes, again.operators),
                                 (question.text(), question.notes, question.operators))
                for day in rng.choices(days, k=3):
                    self.assertIs(again(day), expected(lambda note: holds(day, note)))

    def test_empty_notes_among_operators(self):
        text = "( start r or not ( shows p and start s ) )"
        self.assertEqual(Question.read(MEADOW, text).text(), text)

    def test_all_kinds_of_notes(self):
        for text in ("shows q", "start r b", "at r a 1", "away s c 3", "on r p 2", "off s q 1", "later q p", "nolater p q"):
            self.assertEqual(Question.read(MEADOW, text).text(), text)
            self.assertEqual(Question.read(MEADOW, f"not {text}").text(), f"not {text}")
            self.assertEqual(Question.read(MEADOW, f"( {text} or {text} )").text(), f"( {text} or {text} )")

    def test_brackets(self):
        for text in ("( at r a 1 )", "( at r a 1 and at r b 1", "at r a 1 and at r b 1 )", "at r a 1 or at r b 1",
                     "( at r a 1 and at r b 1 and at r c 1 )", "( ( at r a 1 and at r b 1 )", ") at r a 1 (", "( )", "(",
                     "( at r a 1 and at r b 1 ) )", "( at r a 1 ( and at r b 1 )", "not ( at r a 1 )", "( not at r a 1 )",
                     "( at r a 1 and ( at r b 1 )", "( at r a 1 and at r b 1 ) at r a 1", "( at r a 1 and )",
                     "( and at r a 1 )", "( ) and at r a 1 )", "( or )", "(at r a 1 and at r b 1)",
                     "[ at r a 1 and at r b 1 ]", "( at r a 1 ) at r b 1 )", "( at r a 1 and at r b 1 and",
                     "( at r a 1 or at r b 1 or", "( ( at r a 1 and at r b 1 or or at r c 1 )"):
            self.check_bad(text)

    def test_words(self):
        for text in ("", "not", "and", "or", ")", "at", "at r a", "at r a 4", "at r a 0", "at r a 01", "at r a 1 1", "at r d 1",
                     "under r a 1", "at r a 1 not", "not at r a 1 not", "at not r a 1", "at r a 1 at r b 1",
                     "Not at r a 1", "not not", "( at r a 1 xor at r b 1 )", "( at r a 1 not at r b 1 )",
                     "( at r a 1 AND at r b 1 )", "later p p", "later p", "nolater p x", "shows", "start", "start t",
                     "shows p 0:r:p:a", "shows p 4:r:p:a", "shows p r", "( start r or )", "not ( not )", "& at r a 1"):
            self.check_bad(text)

    def test_spaces_and_line_feeds(self):
        for text in (" at r a 1", "at r a 1 ", "at  r a 1", "not  at r a 1", "( at r a 1  and at r b 1 )", " ", "at\tr a 1",
                     "at r a 1\n", "\nat r a 1", "at r a 1\nat r b 1", "not\nat r a 1", "at r\na 1",
                     "( at r a 1 and\n at r b 1 )", "( start r a\n and at r b 1 )", "shows p old\n"):
            self.check_bad(text)

    def test_marks_and_places_twice(self):
        for text in ("shows p old old", "start r a a", "not start r b a b", "( at r a 1 or shows p 1:r:p:a 1:r:p:a )"):
            self.check_bad(text)

    def test_too_many_operators(self):
        self.assertEqual(Question.read(MEADOW, "not " * 30 + "at r a 1").operators, 30)
        self.check_bad("not " * 31 + "at r a 1")
        self.check_bad("not " * 5000 + "at r a 1")
        self.check_bad("( " * 5000 + "at r a 1")
        text = "at r a 1"
        for _ in range(30):
            text = f"( {text} and later p q )"
        self.assertEqual(Question.read(MEADOW, text).text(), text)
        self.check_bad(f"( {text} or later p q )")
        self.check_bad(f"( later p q or {text} )")
        self.check_bad(f"not {text}")
        left = "at r a 1"
        for _ in range(15):
            left = f"not ( later p q or {left} )"
        self.assertEqual(Question.read(MEADOW, left).operators, 30)
        self.check_bad(f"not {left}")
        self.assertEqual(Question.read(MEADOW, with_operators(30).text()).operators, 30)

    def check_bad(self, text):
        self.check_error(BadLine, 1, Question.read, MEADOW, text)

    def test_the_meadow_counts(self):
        self.assertEqual(Question.read(line_meadow(4), "at r a 4").notes, (("at", "r", "a", 4),))
        self.check_bad("at r a 4")

    def test_notes_are_normal(self):
        rng = random.Random(9)
        for meadow in small_meadows():
            for _ in range(30):
                question, _ = random_question(meadow, rng, 3)
                self.assertEqual(list(question.notes), sorted(set(question.notes)))
                for note in question.notes:
                    self.assertEqual(normal_note(meadow, note), note)

    def test_names_like_words(self):
        meadow = Meadow(1, ["n", "o"], ["a", "o"], [("n", "n", "o")], signs=[("o", ["a"], ["n"])])
        for text in ("( start a n o or shows o old )", "not ( shows o 1:a:n:o and start o n )"):
            self.assertEqual(Question.read(meadow, text).text(), text)


if __name__ == "__main__":
    unittest.main()
