"""The meadow: its hours, places, walkers, paths, gates and signs."""

from tallgrass.base.checks import check_count, check_known, check_new, check_number
from tallgrass.base.errors import BadNumber
from tallgrass.field.rows import check_gate_row, check_path_row, check_sign_row

OLD = (0, "", "", "")


def checked_names(names, most):
    """The names of places or of walkers, ascending."""
    check_count(len(names), most)
    if len(names) == 0:
        raise BadNumber(0)
    for at, name in enumerate(names):
        check_new(name, names[:at])
    return tuple(sorted(names))


def checked_paths(paths, most, places):
    check_count(len(paths), most)
    for at, row in enumerate(paths):
        check_path_row(row, paths[:at], places)
    rows = [(name, min(first, second), max(first, second)) for name, first, second in paths]
    return tuple(sorted(rows))


def checked_gates(gates, hours, walkers, paths):
    """The gates below the number of hours; the others say nothing."""
    for at, row in enumerate(gates):
        check_gate_row(row, gates[:at], hours, walkers, paths)
    rows = [(walker, path, hour) for walker, path, hour in gates if hour < hours]
    return tuple(sorted(rows))


def checked_signs(signs, most, walkers, paths):
    check_count(len(signs), most)
    for at, row in enumerate(signs):
        check_sign_row(row, signs[:at], walkers, paths)
    rows = [(row[0], tuple(sorted(row[1])), tuple(sorted(row[2]))) for row in signs]
    return tuple(sorted(rows))


class Meadow:
    """A meadow is never modified; its attributes are ascending tuples."""

    MOST_HOURS = 6
    MOST_PLACES = 7
    MOST_WALKERS = 3
    MOST_PATHS = 9
    MOST_SIGNS = 9

    def __init__(self, hours, places, walkers, paths, *, gates=(), signs=()):
        check_number(hours, 1, Meadow.MOST_HOURS)
        self.hours = hours
        self.places = checked_names(places, Meadow.MOST_PLACES)
        self.walkers = checked_names(walkers, Meadow.MOST_WALKERS)
        self.paths = checked_paths(paths, Meadow.MOST_PATHS, self.places)
        self._ends = {name: (low, high) for name, low, high in self.paths}
        self.gates = checked_gates(gates, hours, self.walkers, self._ends)
        self.signs = checked_signs(signs, Meadow.MOST_SIGNS, self.walkers, self._ends)
        lower = {(walker, path): hour for walker, path, hour in self.gates}
        self._gate = {(walker, path): lower.get((walker, path), hours)
                      for walker in self.walkers for path in self._ends}
        self._watching = {pair: self._watchers(pair) for pair in self._gate}
        self._paths_at = {place: self._paths_to(place) for place in self.places}
        self._marks = {row[0]: self._marks_of(row) for row in self.signs}

    @classmethod
    def grassy(cls, hours, places, walkers, paths):
        """The meadow in which each path has a sign of its own that watches everybody."""
        signs = [(row[0], walkers, [row[0]]) for row in paths]
        return cls(hours, places, walkers, paths, signs=signs)

    def __eq__(self, other):
        return (isinstance(other, Meadow) and self.hours == other.hours
                and self.places == other.places and self.walkers == other.walkers
                and self.paths == other.paths and self.gates == other.gates
                and self.signs == other.signs)

    def _watchers(self, pair):
        walker, path = pair
        return tuple([name for name, walkers, paths in self.signs if walker in walkers and path in paths])

    def _paths_to(self, place):
        return tuple([path for path in self._ends if place in self._ends[path]])

    def _marks_of(self, row):
        """The marks of a sign, ascending, as the keys of a dict."""
        goings = [(hour, walker, path, place) for walker in row[1] for path in row[2]
                  for place in self._ends[path] for hour in range(1, self._gate[(walker, path)] + 1)]
        return {mark: True for mark in [OLD] + sorted(goings)}

    def check_place(self, place):
        check_known(place, self.places)

    def check_walker(self, walker):
        check_known(walker, self.walkers)

    def check_path(self, path):
        check_known(path, self._ends)

    def check_sign(self, sign):
        check_known(sign, self._marks)

    def check_hour(self, hour):
        check_number(hour, 1, self.hours)

    def sign_names(self):
        """The names of the signs, ascending."""
        return tuple(self._marks)

    def path_names(self):
        """The names of the paths, ascending."""
        return tuple(self._ends)

    def ends(self, path):
        self.check_path(path)
        return self._ends[path]

    def across(self, path, place):
        """The end of a path that is not the place."""
        low, high = self.ends(path)
        check_known(place, (low, high))
        if place == low:
            return high
        return low

    def paths_at(self, place):
        self.check_place(place)
        return self._paths_at[place]

    def gate(self, walker, path):
        """The last hour at which the walker may go along the path; 0 means never."""
        self.check_walker(walker)
        self.check_path(path)
        return self._gate[(walker, path)]

    def watching(self, walker, path):
        """The signs that watch this walker on this path."""
        self.check_walker(walker)
        self.check_path(path)
        return self._watching[(walker, path)]

    def all_marks(self, sign):
        self.check_sign(sign)
        return tuple(self._marks[sign])

    def is_mark(self, sign, mark):
        """Whether something is a mark of a sign that the meadow has."""
        return mark in self._marks[sign]
