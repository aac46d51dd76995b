"""Half books: books in which not everybody was seen in the evening."""

from tallgrass.asking.answers import answer_word, day_where
from tallgrass.base.checks import MOST_ASKED, check_count
from tallgrass.base.choices import one_of_each
from tallgrass.base.errors import BadPlacing
from tallgrass.notes.book import Book
from tallgrass.notes.kinds import normal_note
from tallgrass.sweep.papers import some_day_fits

MOST_HOMES = 8
MOST_NOTES_ASKED_HALF = 3


def checked_homes(meadow, homes):
    """All ways to choose a home for every walker, ascending, from dicts of lists of places."""
    for name in sorted(list(meadow.walkers) + list(homes)):
        if name not in meadow.walkers or name not in homes or not are_places(meadow, homes[name]):
            raise BadPlacing(name)
    rows = [sorted(set(homes[walker])) for walker in meadow.walkers]
    # Each list has at most seven places and there are at most three, so that all ways are soon counted.
    found = one_of_each(rows)
    check_count(len(found), MOST_HOMES)
    return [dict(zip(meadow.walkers, places)) for places in found]


def are_places(meadow, names):
    """Whether there is a name and every name is one of a place."""
    return len(names) > 0 and all([name in meadow.places for name in names])


class Half:
    """A half book is never modified."""

    def __init__(self, meadow, homes, *notes):
        self.meadow = meadow
        self._choices = checked_homes(meadow, homes)
        normal = [normal_note(meadow, note) for note in notes]
        self.notes = tuple(sorted(set(normal)))
        check_count(len(self.notes), MOST_ASKED)

    def books(self):
        """The books for all ways to choose the homes."""
        return [Book.made(self.meadow, homes, self.notes) for homes in self._choices]

    def homes_that_fit(self):
        return [book.homes() for book in self.books() if some_day_fits(book)]

    def answer(self, question):
        return answer_word(self.parting(question))

    def parting(self, question):
        """A day that fits in which the question is true, and one in which it is false; each may be None."""
        question.check_meadow(self)
        check_count(len(question.notes), MOST_NOTES_ASKED_HALF)
        return (self.day_where_half(question, True), self.day_where_half(question, False))

    def day_where_half(self, question, wanted):
        """A day that fits one of the books and for which the question has the wanted answer, or None."""
        for book in self.books():
            day = day_where(book, question, wanted)
            if day is not None:
                return day
        return None
