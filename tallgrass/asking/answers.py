"""How books answer questions."""

from tallgrass.base.checks import MOST_ASKED, check_count
from tallgrass.base.choices import one_of_each
from tallgrass.notes.book import Book
from tallgrass.notes.kinds import opposite
from tallgrass.sweep.papers import day_for

MOST_NOTES_ASKED_FOR = 4


def possible(book, question):
    """A day that fits the book and in which the question is true, or None."""
    check_asked(book, question)
    return day_where(book, question, True)


def parting(book, question):
    """A day that fits in which the question is true, and one in which it is false; each may be None."""
    check_asked(book, question)
    return (day_where(book, question, True), day_where(book, question, False))


def answer(book, question):
    return answer_word(parting(book, question))


def answer_word(days):
    """The answer of which the two days of a parting tell."""
    true_day, false_day = days
    if true_day is None and false_day is None:
        return "no day"
    if false_day is None:
        return "surely"
    if true_day is None:
        return "never"
    return "perhaps"


def books_for(book, question):
    """The books that together say what the book says and that the question is true."""
    check_asked(book, question)
    yield from books_where(book, question, True)


def check_asked(book, question):
    question.check_meadow(book)
    check_count(len(book), MOST_ASKED)
    check_count(len(question.notes), MOST_NOTES_ASKED_FOR)


def books_where(book, question, wanted):
    """The book with each way to call the notes of the question true or false that gives the wanted answer."""
    for way in one_of_each([(True, False)] * len(question.notes)):
        truths = dict(zip(question.notes, way))
        if question.is_true(truths) == wanted:
            notes = [note if truths[note] else opposite(book.meadow, note) for note in question.notes]
            yield Book.made(book.meadow, book.homes(), list(book.notes) + notes)


def day_where(book, question, wanted):
    """A day that fits the book and for which the question has the wanted answer, or None."""
    for found in books_where(book, question, wanted):
        day = day_for(found)
        if day is not None:
            return day
    return None
