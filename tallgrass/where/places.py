"""The whereabouts of walkers in the days that fit a book."""

from tallgrass.base.checks import check_some
from tallgrass.sweep.papers import fitting_sweep


def whereabouts(book, hour):
    """For each walker the places at which it is at the hour in some day that fits."""
    book.meadow.check_hour(hour)
    swept = fitting_sweep(book)
    return {walker: list(swept.reach(walker, hour)) for walker in book.meadow.walkers}


def can_be(book, walker, place, hour):
    book.meadow.check_walker(walker)
    book.meadow.check_place(place)
    book.meadow.check_hour(hour)
    return place in fitting_sweep(book).reach(walker, hour)


def latest_at(book, walker, place):
    """The greatest hour at which the walker is at the place in some day that fits, or 0."""
    book.meadow.check_walker(walker)
    book.meadow.check_place(place)
    swept = fitting_sweep(book)
    return max([hour for hour in range(1, book.meadow.hours + 1) if place in swept.reach(walker, hour)], default=0)


def latest_on(book, walker, path):
    """The greatest hour at which the walker goes along the path in some day that fits, or 0."""
    book.meadow.check_walker(walker)
    ends = book.meadow.ends(path)
    swept = fitting_sweep(book)
    # Where the path is open, either both of its ends are in reach or none is.
    return max([hour for hour in range(1, book.meadow.hours + 1)
                if swept.passable(walker, path, hour) and ends[0] in swept.reach(walker, hour)], default=0)


def meeting_places(book, walkers, hour):
    """The places at which the walkers are all together at the hour in some day that fits."""
    check_some(walkers, book.meadow.walkers)
    book.meadow.check_hour(hour)
    return shared_places(fitting_sweep(book), walkers, hour)


def latest_meeting(book, walkers):
    """The greatest hour at which the walkers can meet, or 0."""
    check_some(walkers, book.meadow.walkers)
    swept = fitting_sweep(book)
    return max([hour for hour in range(1, book.meadow.hours + 1)
                if len(shared_places(swept, walkers, hour)) > 0], default=0)


def shared_places(swept, walkers, hour):
    reaches = [swept.reach(walker, hour) for walker in walkers]
    return [place for place in swept.book.meadow.places if all([place in reach for reach in reaches])]
