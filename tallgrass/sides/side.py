"""Sides: meadows with a book that can be joined at one common place."""

from tallgrass.base.checks import check_each
from tallgrass.base.errors import BadNote, BadPlacing, Clash
from tallgrass.field.meadow import Meadow
from tallgrass.notes.book import Book


class Side:
    """A side is never modified; an outsider comes into it and leaves it through the place."""

    def __init__(self, book, place, outsiders):
        book.meadow.check_place(place)
        check_each(outsiders, book.meadow.walkers)
        self.book = book
        self.place = place
        self.outsiders = tuple(sorted(outsiders))
        self.residents = tuple([walker for walker in book.meadow.walkers if walker not in outsiders])
        for walker in self.outsiders:
            if book.home(walker) != place:
                raise BadPlacing(walker)
        for note in book.notes:
            if note[1] in outsiders and names_place(note, place):
                raise BadNote(note)

    def __add__(self, other):
        check_joinable(self, other)
        meadow = joined_meadow(self.book.meadow, other.book.meadow)
        homes = {walker: self.book.home(walker) if walker in self.residents else other.book.home(walker)
                 for walker in meadow.walkers}
        notes = self.book.notes + other.book.notes
        outsiders = [walker for walker in self.outsiders if walker in other.outsiders]
        return Side(Book(meadow, homes, *notes), self.place, outsiders)


def names_place(note, place):
    """Whether a note about where a walker started, was or was not names the place."""
    if note[0] == "start":
        return place in note[2]
    return note[0] in ("at", "away") and note[2] == place


def check_joinable(side, other):
    """Checks that two sides have nothing in common but what they must have."""
    meadow, beyond = side.book.meadow, other.book.meadow
    if meadow.hours != beyond.hours or meadow.walkers != beyond.walkers or side.place != other.place:
        raise Clash()
    if (shared(meadow.places, beyond.places) != [side.place] or shared(meadow.path_names(), beyond.path_names()) != []
            or shared(meadow.sign_names(), beyond.sign_names()) != []):
        raise Clash()
    if shared(side.residents, other.residents) != [] or shared(walkers_told(side), walkers_told(other)) != []:
        raise Clash()


def shared(names, others):
    return [name for name in names if name in others]


def walkers_told(side):
    """The walkers about whose start there is a note."""
    return [note[1] for note in side.book.notes if note[0] == "start"]


def joined_meadow(meadow, other):
    places = sorted(set(meadow.places + other.places))
    return Meadow(meadow.hours, places, meadow.walkers, meadow.paths + other.paths,
                  gates=meadow.gates + other.gates, signs=meadow.signs + other.signs)
