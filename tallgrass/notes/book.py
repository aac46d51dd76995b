"""Books: what was seen and noted in the evening."""

from tallgrass.base.checks import check_count
from tallgrass.base.errors import Clash, NotThere
from tallgrass.field.meadow import OLD
from tallgrass.field.placing import checked_placing
from tallgrass.notes.kinds import normal_holds, normal_note
from tallgrass.notes.reading import Reading


class Book:
    """A book is never modified; notes is the ascending tuple of its notes in normal form."""

    MOST_NOTES = 20

    def __init__(self, meadow, homes, *notes):
        self.meadow = meadow
        self._homes = checked_placing(meadow, homes)
        normal = [normal_note(meadow, note) for note in notes]
        self.notes = tuple(sorted(set(normal)))
        check_count(len(self.notes), Book.MOST_NOTES)

    @classmethod
    def made(cls, meadow, homes, notes):
        return cls(meadow, homes, *notes)

    def __eq__(self, other):
        return (isinstance(other, Book) and self.meadow == other.meadow
                and self._homes == other.homes() and self.notes == other.notes)

    def __len__(self):
        return len(self.notes)

    def __iter__(self):
        return iter(self.notes)

    def __contains__(self, x):
        return x in self.notes

    def __add__(self, other):
        notes = self.notes + (other,)
        return Book(self.meadow, self._homes, *notes)

    def __sub__(self, other):
        note = normal_note(self.meadow, other)
        if note not in self.notes:
            raise NotThere(note)
        notes = [kept for kept in self.notes if kept != note]
        return Book(self.meadow, self._homes, *notes)

    def __and__(self, other):
        if self.meadow != other.meadow or self._homes != other.homes():
            raise Clash()
        notes = self.notes + other.notes
        return Book(self.meadow, self._homes, *notes)

    def home(self, walker):
        self.meadow.check_walker(walker)
        return self._homes[walker]

    def homes(self):
        return dict(self._homes)

    def fits(self, day):
        """Whether the day ends at the homes of the book and every note holds in it."""
        return len(self.broken(day)) == 0 and day.homes() == self._homes

    def broken(self, day):
        """The notes that do not hold in the day, whatever its homes are."""
        if day.meadow != self.meadow:
            raise Clash()
        return [note for note in self.notes if not normal_holds(day, note)]

    def allowed(self, sign):
        """The marks that all notes about what the sign shows have in common."""
        marks = Reading.every(self.meadow, sign)
        for note in self.notes:
            if note[0] == "shows" and note[1] == sign:
                marks = marks & Reading(self.meadow, sign, note[2])
        return marks

    def may_start(self, walker):
        """The places that all notes about the start of the walker have in common."""
        self.meadow.check_walker(walker)
        named = [note[2] for note in self.notes if note[0] == "start" and note[1] == walker]
        return tuple([place for place in self.meadow.places if all([place in places for places in named])])

    def gate(self, walker, path):
        """The last hour at which meadow and notes let the walker go along the path."""
        least = self.meadow.gate(walker, path)
        ends = self.meadow.ends(path)
        for word, name, *rest in self.notes:
            if name == walker and (word == "off" and rest[0] == path or word == "away" and rest[0] in ends):
                least = min(least, rest[1] - 1)
        return least

    def must(self, sign):
        """Whether the notes say straight out that the sign was touched."""
        named = [note for note in self.notes if note[0] == "later" and note[1] == sign]
        return len(named) > 0 or OLD not in self.allowed(sign)


def exact_book(day):
    """The book that tells all starts, all homes and what every sign shows."""
    meadow = day.meadow
    notes = [("start", walker, (day.start(walker),)) for walker in meadow.walkers]
    notes.extend([("shows", sign, (day.shown(sign),)) for sign in meadow.sign_names()])
    return Book.made(meadow, day.homes(), notes)
