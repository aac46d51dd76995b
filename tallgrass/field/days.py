"""Days: where the walkers start, and the row of their goings."""

from tallgrass.base.checks import check_count, check_number
from tallgrass.base.errors import BadGoing
from tallgrass.field.meadow import OLD
from tallgrass.field.placing import checked_placing


def is_possible(meadow, standing, hour, going):
    """Whether a going can follow one of the given hour while the walkers stand so."""
    if len(going) != 4:
        return False
    number, walker, path, place = going
    if walker not in meadow.walkers or path not in meadow.path_names():
        return False
    if place not in meadow.ends(path) or number not in range(hour, meadow.gate(walker, path) + 1):
        return False
    return standing[walker] == meadow.across(path, place)


def walked(meadow, starts, goings):
    """Where the walkers stand after the goings, each of which must be possible."""
    standing = dict(starts)
    hour = 1
    for index, going in enumerate(goings):
        if not is_possible(meadow, standing, hour, going):
            raise BadGoing(index)
        hour = going[0]
        standing[going[1]] = going[3]
    return standing


class Day:
    """A day is never modified."""

    MOST_GOINGS = 2000

    def __init__(self, meadow, starts, goings):
        self.meadow = meadow
        self._starts = checked_placing(meadow, starts)
        check_count(len(goings), Day.MOST_GOINGS)
        self.goings = tuple([tuple(going) for going in goings])
        self._homes = walked(meadow, self._starts, self.goings)

    def __len__(self):
        return len(self.goings)

    def __iter__(self):
        return iter(self.goings)

    def __add__(self, other):
        return Day(self.meadow, self._starts, self.goings + (other,))

    def __eq__(self, other):
        return (isinstance(other, Day) and self.meadow == other.meadow
                and self._starts == other._starts and self.goings == other.goings)

    def start(self, walker):
        self.meadow.check_walker(walker)
        return self._starts[walker]

    def home(self, walker):
        self.meadow.check_walker(walker)
        return self._homes[walker]

    def starts(self):
        return dict(self._starts)

    def homes(self):
        return dict(self._homes)

    def placing(self, k):
        """Where the walkers stand after the first k goings."""
        check_number(k, 0, len(self.goings))
        return walked(self.meadow, self._starts, self.goings[:k])

    def where(self, walker, hour):
        """The places at which the walker is at some time of the hour."""
        place = self.start(walker)
        self.meadow.check_hour(hour)
        places = []
        since = 1
        for going in self.goings:
            if since <= hour <= going[0]:
                places.append(place)
            since = going[0]
            if going[1] == walker:
                place = going[3]
        if since <= hour:
            places.append(place)
        return sorted(set(places))

    def last(self, sign):
        """The index of the last going that the sign watched, or -1."""
        self.meadow.check_sign(sign)
        for index in range(len(self.goings) - 1, -1, -1):
            if self.meadow.is_mark(sign, self.goings[index]):
                return index
        return -1

    def shown(self, sign):
        index = self.last(sign)
        if index < 0:
            return OLD
        return self.goings[index]


def exchange(day, at):
    """The day in which two neighbouring goings of one hour have changed places."""
    check_number(at, 0, len(day) - 2)
    first, second = day.goings[at], day.goings[at + 1]
    if first[0] != second[0] or first[1] == second[1]:
        raise BadGoing(at)
    goings = day.goings[:at] + (second, first) + day.goings[at + 2:]
    return Day(day.meadow, day.starts(), goings)
