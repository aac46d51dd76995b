"""What the grass tells if nobody knows who left it, but all paths were trodden."""

from tallgrass.base.choices import one_of_each
from tallgrass.plain.grass import check_lying, check_places, led_from, trodden_places


def bottoms(meadow, lying):
    """The sets of places that lead to one another and to nothing else, with a path, as ascending tuples."""
    check_lying(meadow, lying)
    return sinks(meadow, lying)


def sinks(meadow, lying):
    """The bottoms of a lying that is checked already."""
    led = {place: led_from(meadow, lying, place) for place in trodden_places(meadow)}
    return sorted(set([tuple(led[place]) for place in led if all([place in led[end] for end in led[place]])]))


def company_suffices(meadow, lying, places):
    """Whether walkers who now stand at the places can have left the lying."""
    check_lying(meadow, lying)
    check_places(meadow, places)
    return all([any([place in places for place in bottom]) for bottom in sinks(meadow, lying)])


def fewest_strangers(meadow, lying):
    return len(bottoms(meadow, lying))


def least_companies(meadow, lying):
    """Yields the tuples with just one place of each bottom, ascending."""
    check_lying(meadow, lying)
    for company in sorted([tuple(sorted(row)) for row in one_of_each(sinks(meadow, lying))]):
        yield company
