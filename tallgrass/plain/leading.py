"""Which places lead home, as the grass lies, and where nobody was ever."""

from tallgrass.base.choices import choices
from tallgrass.plain.grass import blades, check_homes, check_lying, check_places, leading


def leading_home(meadow, lying, homes):
    """The places that lead home, ascending."""
    check_lying(meadow, lying)
    check_homes(meadow, homes)
    return leading(meadow, lying, homes)


def is_untrodden(meadow, lying, homes, places):
    """Whether nobody who is at home was ever in the set of the places."""
    check_lying(meadow, lying)
    check_homes(meadow, homes)
    check_places(meadow, places)
    return is_shut(meadow, lying, homes, places)


def is_shut(meadow, lying, homes, places):
    """Whether there are places, none of them a home, and no grass leads out of them."""
    if len(places) == 0 or any([home in places for home in homes]):
        return False
    return not any([start in places and end not in places for _, start, end in blades(meadow, lying)])


def shut_sets(meadow, lying, homes):
    """All untrodden sets, as ascending tuples, ascending."""
    sets = [places for count in range(1, len(meadow.places) + 1) for places in choices(meadow.places, count)]
    return sorted([places for places in sets if is_shut(meadow, lying, homes, places)])


def untrodden_sets(meadow, lying, homes):
    """Yields all untrodden sets, as ascending tuples, ascending."""
    check_lying(meadow, lying)
    check_homes(meadow, homes)
    for places in shut_sets(meadow, lying, homes):
        yield places
