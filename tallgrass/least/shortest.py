"""Days that fit with few goings."""

from tallgrass.base.checks import MOST_ASKED, check_count, check_number
from tallgrass.base.choices import one_of_each
from tallgrass.base.errors import BadNote
from tallgrass.closing.closure import check_small
from tallgrass.field.days import Day
from tallgrass.least.search import least_goings
from tallgrass.sweep.papers import fitting_sweep

MOST_GOINGS_LISTED = 2


def check_small_book(book):
    check_small(book.meadow)
    check_count(len(book), MOST_ASKED)


def fewest_goings(book):
    return len(shortest_day(book))


def shortest_day(book):
    """A day that fits with as few goings as there can be."""
    check_small_book(book)
    for note in book.notes:
        if note[0] in ("at", "on"):
            raise BadNote(note)
    goings = least_goings(fitting_sweep(book).ground)
    starts = book.homes()
    for _, walker, path, place in reversed(goings):
        starts[walker] = book.meadow.across(path, place)
    return Day(book.meadow, starts, goings)


def fitting_days(book, most):
    """All days that fit with at most so many goings, those with fewer goings first."""
    check_number(most, 0, MOST_GOINGS_LISTED)
    check_small_book(book)
    meadow = book.meadow
    for count in range(most + 1):
        for places in one_of_each([meadow.places] * len(meadow.walkers)):
            starts = dict(zip(meadow.walkers, places))
            for goings in goings_to(book, starts, 1, count):
                day = Day(meadow, starts, goings)
                if book.fits(day):
                    yield day


def goings_to(book, standing, hour, count):
    """All rows of so many goings from the hour on that lead from where the walkers stand to their homes, ascending."""
    if len([walker for walker in standing if standing[walker] != book.home(walker)]) > count:
        return []
    if count == 0:
        return [()]
    rows = []
    for going in next_goings(book.meadow, standing, hour):
        after = {**standing, going[1]: going[3]}
        rows.extend([(going,) + row for row in goings_to(book, after, going[0], count - 1)])
    return rows


def next_goings(meadow, standing, hour):
    """All goings that are possible from the hour on, ascending."""
    return sorted([(number, walker, path, meadow.across(path, standing[walker]))
                   for walker in meadow.walkers for path in meadow.paths_at(standing[walker])
                   for number in range(hour, meadow.gate(walker, path) + 1)])
