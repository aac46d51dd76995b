"""Closures: everything that holds in all days that fit a book about a small meadow."""

from tallgrass.base.checks import MOST_ASKED, check_count
from tallgrass.base.errors import TooLarge
from tallgrass.closing.implied import is_implied
from tallgrass.sweep.papers import fitting_sweep, some_day_fits
from tallgrass.where.places import latest_at, latest_on

SMALL_HOURS = 3
SMALL_PLACES = 4
SMALL_PATHS = 5
SMALL_WALKERS = 2
SMALL_SIGNS = 5


def is_small(meadow):
    return (meadow.hours <= SMALL_HOURS and len(meadow.places) <= SMALL_PLACES
            and len(meadow.paths) <= SMALL_PATHS and len(meadow.walkers) <= SMALL_WALKERS
            and len(meadow.signs) <= SMALL_SIGNS)


def check_small(meadow):
    if not is_small(meadow):
        raise TooLarge()


class Closure:
    """A closure is never modified."""

    def __init__(self, book):
        check_small(book.meadow)
        check_count(len(book), MOST_ASKED)
        swept = fitting_sweep(book)
        meadow = book.meadow
        signs, places, paths = meadow.sign_names(), meadow.places, meadow.path_names()
        self.book = book
        self._marks = {sign: marks_shown(swept, sign) for sign in signs}
        self._starts = {walker: starts_left(swept, walker) for walker in meadow.walkers}
        self._at = {(walker, place): surely_until(book, ("at", walker, place))
                    for walker in meadow.walkers for place in places}
        self._on = {(walker, path): surely_until(book, ("on", walker, path))
                    for walker in meadow.walkers for path in paths}
        # What can last hold at an hour is surely over at the next one.
        self._away = {(walker, place): latest_at(book, walker, place) + 1
                      for walker in meadow.walkers for place in places}
        self._off = {(walker, path): latest_on(book, walker, path) + 1
                     for walker in meadow.walkers for path in paths}
        self._later = {(sign, other): later_word(book, sign, other) for sign in signs for other in signs}
        self._notes = tuple(sorted(self._told()))

    def __eq__(self, other):
        return (isinstance(other, Closure) and self.book.meadow == other.book.meadow
                and self.book.homes() == other.book.homes() and self._notes == other._notes)

    def _told(self):
        """The notes that tell what the closure holds."""
        never = self.book.meadow.hours + 1
        notes = [("shows", sign, self._marks[sign]) for sign in self._marks]
        notes.extend([("start", walker, self._starts[walker]) for walker in self._starts])
        for word, table, silent in (("at", self._at, 0), ("on", self._on, 0),
                                    ("away", self._away, never), ("off", self._off, never)):
            notes.extend([(word, walker, name, table[(walker, name)]) for walker, name in table
                          if table[(walker, name)] != silent])
        notes.extend([(self._later[pair],) + pair for pair in self._later
                      if pair[0] != pair[1] and self._later[pair] != "open"])
        return notes

    def marks_of(self, sign):
        """The marks that the sign shows in some day that fits."""
        self.book.meadow.check_sign(sign)
        return self._marks[sign]

    def starts_of(self, walker):
        """The starts of the walker in the days that fit."""
        self.book.meadow.check_walker(walker)
        return self._starts[walker]

    def at(self, walker, place):
        """The greatest hour for which the note holds in every day that fits, or 0."""
        self._check_at(walker, place)
        return self._at[(walker, place)]

    def away(self, walker, place):
        """The least hour for which the note holds in every day that fits, or one above all hours."""
        self._check_at(walker, place)
        return self._away[(walker, place)]

    def on(self, walker, path):
        self._check_on(walker, path)
        return self._on[(walker, path)]

    def off(self, walker, path):
        self._check_on(walker, path)
        return self._off[(walker, path)]

    def _check_at(self, walker, place):
        self.book.meadow.check_walker(walker)
        self.book.meadow.check_place(place)

    def _check_on(self, walker, path):
        self.book.meadow.check_walker(walker)
        self.book.meadow.check_path(path)

    def later(self, sign, other):
        """The word of the note that holds in every day that fits, or open if neither does."""
        self.book.meadow.check_sign(sign)
        self.book.meadow.check_sign(other)
        return self._later[(sign, other)]

    def as_notes(self):
        return list(self._notes)


def closure(book):
    return Closure(book)


def marks_shown(swept, sign):
    """The marks that the sign shows in some day that fits."""
    book = swept.book
    return tuple([mark for mark in book.allowed(sign)
                  if mark[0] <= swept.late(sign) and some_day_fits(book + ("shows", sign, (mark,)))])


def starts_left(swept, walker):
    """The places from which the walker starts in some day that fits."""
    near = swept.reach(walker, 1)
    return tuple([place for place in swept.book.may_start(walker) if place in near])


def surely_until(book, start):
    """The greatest hour with which the note that begins so holds in every day that fits, or 0."""
    for hour in range(book.meadow.hours, 0, -1):
        if is_implied(book, start + (hour,)):
            return hour
    return 0


def later_word(book, sign, other):
    if sign == other or is_implied(book, ("nolater", sign, other)):
        return "nolater"
    if is_implied(book, ("later", sign, other)):
        return "later"
    return "open"
