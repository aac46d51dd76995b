"""Days that pass stations: hours at which some walkers must be at given places together."""

from tallgrass.base.checks import check_count, check_entries, check_number
from tallgrass.base.errors import OutOfReach
from tallgrass.field.placing import all_places
from tallgrass.sweep.papers import fitting_sweep
from tallgrass.sweep.trips import day_of_trips

MOST_STATIONS = 20


def day_through(book, stations):
    """A day that fits and passes the stations."""
    check_stations(book.meadow, stations)
    swept = fitting_sweep(book)
    for index, (hour, placing) in enumerate(stations):
        if not all([placing[walker] in swept.reach(walker, hour) for walker in placing]):
            raise OutOfReach(index)
    return day_of_trips(swept, stations)


def check_stations(meadow, stations):
    check_count(len(stations), MOST_STATIONS)
    least = 1
    for hour, placing in stations:
        check_number(hour, least, meadow.hours)
        check_entries(placing, all_places(meadow))
        least = hour
