"""The two papers of a book: a day that fits it, or a table that shows that there is none."""

from tallgrass.base.errors import NoDay
from tallgrass.sweep.faults import faults_under
from tallgrass.sweep.sweeping import Sweep
from tallgrass.sweep.trips import day_of_trips


def faults_of(swept):
    return faults_under(swept.ground, swept.lates())


def some_day_fits(book):
    return len(failing(book)) == 0


def failing(book):
    """The notes, then the signs, then the walkers because of which no day fits."""
    return faults_of(Sweep(book))


def ceiling_for(book):
    """A table that bars the book, or None if some day fits."""
    swept = Sweep(book)
    if len(faults_of(swept)) == 0:
        return None
    return swept.lates()


def day_for(book):
    """A day that fits in which every sign is touched as late as it can be, or None."""
    swept = Sweep(book)
    if len(faults_of(swept)) > 0:
        return None
    return day_of_trips(swept, [])


def fitting_sweep(book):
    """The sweep of a book that some day must fit."""
    swept = Sweep(book)
    if len(faults_of(swept)) > 0:
        raise NoDay()
    return swept
