"""Questions that are put together from notes."""

from tallgrass.asking.rows import MOST_OPERATORS, operators_in, read_row, row_text, truth_of
from tallgrass.base.checks import check_count
from tallgrass.base.errors import Clash
from tallgrass.notes.kinds import normal_holds, normal_note


class Question:
    """A question is never modified; notes is the ascending tuple of the different notes in it."""

    def __init__(self, meadow, note):
        self.meadow = meadow
        self._row = (normal_note(meadow, note),)
        self.notes = self._row
        self.operators = 0

    def __and__(self, other):
        self.check_meadow(other)
        return put_together(self.meadow, self._row + other._row + ("and",))

    def __or__(self, other):
        self.check_meadow(other)
        return put_together(self.meadow, self._row + other._row + ("or",))

    def __invert__(self):
        return put_together(self.meadow, self._row + ("not",))

    def __call__(self, day):
        """Whether the answer is yes for the day."""
        self.check_meadow(day)
        return self.is_true({note: normal_holds(day, note) for note in self.notes})

    @classmethod
    def read(cls, meadow, text):
        return put_together(meadow, read_row(meadow, text))

    def check_meadow(self, other):
        """Checks that another question, a day or a book is about an equal meadow."""
        if self.meadow != other.meadow:
            raise Clash()

    def is_true(self, truths):
        """Whether the answer is yes where the notes are as true as the dict tells."""
        return truth_of(self._row, truths)

    def text(self):
        return row_text(self.meadow, self._row)


def put_together(meadow, row):
    """The question of a row."""
    check_count(operators_in(row), MOST_OPERATORS)
    question = Question(meadow, row[0])
    question._row = row
    question.notes = tuple(sorted(set([item for item in row if isinstance(item, tuple)])))
    question.operators = operators_in(row)
    return question
