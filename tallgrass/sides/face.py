"""Faces: what a side looks like from its common place, and whether sides fit together."""

from tallgrass.base.checks import MOST_ASKED, check_all_entries, check_count
from tallgrass.base.choices import one_of_each
from tallgrass.base.errors import Clash, TooLarge
from tallgrass.sweep.faults import faults_under
from tallgrass.sweep.ground import Ground, freed_at
from tallgrass.sweep.sweeping import lates_of, steps_over

FACE_HOURS = 3
FACE_PLACES = 4
FACE_PATHS = 5
FACE_SIGNS = 5
FACE_OUTSIDERS = 2


def check_faced(side):
    """Checks that a side is small enough to have a face."""
    meadow = side.book.meadow
    if (meadow.hours > FACE_HOURS or len(meadow.places) > FACE_PLACES or len(meadow.paths) > FACE_PATHS
            or len(meadow.signs) > FACE_SIGNS or len(side.outsiders) > FACE_OUTSIDERS):
        raise TooLarge()
    check_count(len(side.book), MOST_ASKED)


def row_under(side, arrivals):
    """The row of a face: the arrival hours, whether the side is good under them, and the coming hours."""
    ground = Ground(side.book, by_name(side.outsiders, arrivals))
    table = lates_of(ground.meadow, steps_over(ground))
    good = len(faults_under(ground, table)) == 0
    coming = [latest_near(ground, table, walker, side.place) for walker in side.residents]
    return (arrivals, good, tuple(coming))


def latest_near(ground, table, walker, place):
    """The greatest hour at which the place is in the reach of the walker, or 0."""
    hours = range(1, ground.meadow.hours + 1)
    return max([hour for hour in hours if place in ground.near(walker, hour, freed_at(table, hour))], default=0)


def by_name(walkers, hours):
    """A dict from walkers to hours that are given in the same order."""
    return {walker: hour for walker, hour in zip(walkers, hours)}


class Face:
    """A face is never modified."""

    def __init__(self, side):
        check_faced(side)
        meadow = side.book.meadow
        self.hours = meadow.hours
        self.walkers = meadow.walkers
        self.outsiders = side.outsiders
        self.residents = side.residents
        self._numbers = tuple(range(meadow.hours + 1))
        arrivals = one_of_each([self._numbers for _ in side.outsiders])
        self.rows = tuple([row_under(side, hours) for hours in arrivals])
        self._row = {row[0]: row for row in self.rows}

    def ok(self, arrivals):
        """Whether the side is good under the arrival hours."""
        return self._row[self.checked(arrivals)][1]

    def coming(self, arrivals):
        """The coming hour of every resident under the arrival hours."""
        return by_name(self.residents, self._row[self.checked(arrivals)][2])

    def checked(self, arrivals):
        """The arrival hours in the order of the outsiders."""
        check_all_entries(arrivals, {walker: self._numbers for walker in self.outsiders})
        return tuple([arrivals[walker] for walker in self.outsiders])

    def arriving(self, numbers):
        """The arrival hours of the outsiders, out of the numbers of all walkers."""
        return {walker: numbers[walker] for walker in self.outsiders}


def face(side):
    return Face(side)


def check_together(faces):
    """Checks that the faces belong together."""
    if len(faces) == 0:
        raise Clash()
    hours, walkers = faces[0].hours, faces[0].walkers
    if any([one.hours != hours or one.walkers != walkers for one in faces]):
        raise Clash()
    if tuple(sorted([walker for one in faces for walker in one.residents])) != walkers:
        raise Clash()


def next_hours(faces, numbers):
    """The coming hour of each walker under the present ones."""
    found = {}
    for one in faces:
        coming = one.coming(one.arriving(numbers))
        for walker in coming:
            found[walker] = coming[walker]
    return found


def coming_hours(*faces):
    """The coming hours of all walkers in faces that belong together."""
    check_together(faces)
    numbers = {walker: 0 for walker in faces[0].walkers}
    following = next_hours(faces, numbers)
    while following != numbers:
        numbers = following
        following = next_hours(faces, numbers)
    return numbers


def faces_fit(*faces):
    """Whether every face is good under the coming hours."""
    numbers = coming_hours(*faces)
    return all([one.ok(one.arriving(numbers)) for one in faces])
