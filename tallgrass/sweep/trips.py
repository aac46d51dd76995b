"""A day that fits, put together from trips that lead from the homes and back."""

from tallgrass.field.days import Day
from tallgrass.sweep.ground import freed_at


def day_of_trips(swept, stations):
    """A day that fits the book of a sweep that has no faults, and that passes the stations.

    Every sign is touched as late as it can be. The stations are pairs of an hour and a dict from
    walkers to places in their reach, and their hours do not fall.
    """
    meadow = swept.book.meadow
    starts = {walker: start_for(swept, walker) for walker in meadow.walkers}
    goings = []
    for walker in meadow.walkers:
        goings.extend(goings_home(meadow, 1, walker, way_to(swept, walker, starts[walker], 1)))
    for hour in range(1, meadow.hours + 1):
        for note in swept.book.notes:
            if note[0] in ("at", "on") and note[3] == hour:
                goings.extend(goings_for_note(swept, note))
        for number, placing in stations:
            if number == hour:
                goings.extend(goings_for_station(swept, hour, placing))
        goings.extend(goings_for_steps(swept, hour))
    return Day(meadow, starts, goings)


def way_to(swept, walker, place, hour):
    """A way from the home of the walker to a place in its reach at the hour."""
    return swept.ground.ways(walker, hour, freed_at(swept.lates(), hour))[place]


def start_for(swept, walker):
    near = swept.reach(walker, 1)
    return [place for place in swept.book.may_start(walker) if place in near][0]


def goings_out(hour, walker, way):
    return [(hour, walker, path, place) for path, place in way]


def goings_home(meadow, hour, walker, way):
    """The goings back along a way that leads out from the home."""
    return [(hour, walker, path, meadow.across(path, place)) for path, place in reversed(way)]


def round_trip(meadow, hour, walker, way):
    return goings_out(hour, walker, way) + goings_home(meadow, hour, walker, way)


def goings_for_note(swept, note):
    """A trip from the home and back that makes an at or on note hold."""
    word, walker, name, hour = note
    meadow = swept.book.meadow
    if word == "at":
        return round_trip(meadow, hour, walker, way_to(swept, walker, name, hour))
    # The path is open to the walker, so that with one of its ends both are in reach.
    low, high = meadow.ends(name)
    return round_trip(meadow, hour, walker, way_to(swept, walker, low, hour) + ((name, high),))


def goings_for_station(swept, hour, placing):
    """All walkers of the placing go out, so that they stand there together, and then home again."""
    ways = {walker: way_to(swept, walker, placing[walker], hour) for walker in placing}
    goings = []
    for walker in ways:
        goings.extend(goings_out(hour, walker, ways[walker]))
    for walker in ways:
        goings.extend(goings_home(swept.book.meadow, hour, walker, ways[walker]))
    return goings


def goings_for_steps(swept, hour):
    """The trips for the steps of the hour, from the last step to the first.

    Each uses only signs that are freed ahead of its step, so that the trips behind it touch them again.
    """
    meadow = swept.book.meadow
    goings = []
    for at in range(len(swept.order) - 1, -1, -1):
        number, walker, path, place, _ = swept.order[at]
        if number == hour:
            freed = {sign: True for step in swept.order[:at] for sign in step[4]}
            way = swept.ground.ways(walker, hour, freed)[place] + ((path, meadow.across(path, place)),)
            goings.extend(round_trip(meadow, hour, walker, way))
    return goings
