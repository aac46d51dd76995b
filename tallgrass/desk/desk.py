"""The desk: notes arrive one by one, get numbers, and can be taken back."""

from tallgrass.asking.answers import answer
from tallgrass.base.checks import check_count, check_number
from tallgrass.base.errors import NotThere, Twice
from tallgrass.field.placing import checked_placing
from tallgrass.least.lots import lot
from tallgrass.least.strikes import fewest_strikes
from tallgrass.notes.book import Book
from tallgrass.notes.kinds import normal_note
from tallgrass.sweep.papers import some_day_fits
from tallgrass.sweep.sweeping import sweep
from tallgrass.where.places import whereabouts

MOST_NUMBERS = 900


class Desk:
    """Its state is a tuple of the next number and the standing notes, each as (number, note) and by number."""

    def __init__(self, meadow, homes):
        self.meadow = meadow
        self._homes = checked_placing(meadow, homes)
        self._limit = Book.MOST_NOTES
        self._state = (1, ())
        self._earlier = []
        self._undone = []

    @property
    def limit(self):
        """The number of standing notes up to which notes can be told."""
        return self._limit

    @limit.setter
    def limit(self, value):
        self.set_limit(value)

    def set_limit(self, number):
        check_number(number, 0, Book.MOST_NOTES)
        self._limit = number

    @property
    def standing(self):
        """The standing notes, each as (number, note), by ascending number."""
        return self._state[1]

    def homes(self):
        return dict(self._homes)

    def following(self):
        """The next number."""
        return self._state[0]

    def tell(self, note):
        """Adds a note and returns its number."""
        return self.together([note])[0]

    def together(self, notes):
        """Adds notes as one step, all or none, and returns their numbers."""
        state = self.state_with(notes)
        numbers = list(range(self.following(), state[0]))
        if len(numbers) > 0:
            self.step_to(state)
        return numbers

    def state_with(self, notes):
        """The state in which further notes are told."""
        number, standing = self._state
        for note in notes:
            normal = normal_note(self.meadow, note)
            if normal in [row[1] for row in standing]:
                raise Twice(normal)
            check_count(len(standing) + 1, self._limit)
            check_count(number, MOST_NUMBERS)
            standing = standing + ((number, normal),)
            number += 1
        return (number, standing)

    def strike(self, number):
        """Removes the note with the number and returns it."""
        note = self.noted(number)
        self.step_to((self.following(), tuple([row for row in self.standing if row[0] != number])))
        return note

    def noted(self, number):
        """The standing note with the number."""
        for row in self.standing:
            if row[0] == number:
                return row[1]
        raise NotThere(number)

    def step_to(self, state):
        """Goes to another state by a step."""
        self._earlier.append(self._state)
        self._state = state
        self._undone = []

    def undo(self):
        if len(self._earlier) == 0:
            raise NotThere(0)
        self._undone.append(self._state)
        self._state = self._earlier.pop()

    def redo(self):
        if len(self._undone) == 0:
            raise NotThere(0)
        self._earlier.append(self._state)
        self._state = self._undone.pop()

    def position(self):
        """The state, and what there is to undo and to redo."""
        return (self._state, tuple(self._earlier), tuple(self._undone))

    def go_to(self, position):
        """Goes to a position, but not by a step."""
        self._state = position[0]
        self._earlier = list(position[1])
        self._undone = list(position[2])

    def step_since(self, position):
        """Makes one step of all steps since the position, none of which was undone."""
        # A step either counts the next number up or strikes a note, so no row of steps leads back.
        if self._state != position[0]:
            self._earlier = list(position[1]) + [position[0]]

    def current(self):
        """The book with the standing notes."""
        return self.book_with(self.standing)

    def book_with(self, standing):
        return Book.made(self.meadow, self._homes, [note for _, note in standing])

    def sound(self):
        """Whether some day fits the standing notes."""
        return some_day_fits(self.current())

    def late(self, sign):
        return sweep(self.current()).late(sign)

    def whereabouts(self, hour):
        return whereabouts(self.current(), hour)

    def answer(self, question):
        return answer(self.current(), question)

    def tried(self, notes, question):
        """The answer as it would be if the notes were told, too."""
        return answer(self.book_with(self.state_with(notes)[1]), question)

    def lot(self):
        """The numbers of the notes of a lot, ascending, or None."""
        notes = lot(self.current())
        return None if notes is None else self.numbers_of(notes)

    def strikes(self):
        """The numbers of the fewest notes to strike, ascending."""
        return self.numbers_of(fewest_strikes(self.current())[0])

    def numbers_of(self, notes):
        return [number for number, note in self.standing if note in notes]

    def clash(self):
        """The least number up to which the standing notes fit no day, or None."""
        for at, row in enumerate(self.standing):
            if not some_day_fits(self.book_with(self.standing[:at + 1])):
                return row[0]
        return None
