"""What a book says about its meadow, laid out for sweeping, and what holds there once some signs are freed.

Which signs are freed is told by a dict that has them as its keys.
"""


def freed_at(table, hour):
    """The signs that a table from signs to hours frees at the hour."""
    return {sign: True for sign in table if table[sign] >= hour}


class Ground:
    """The ground of a book; caps is a dict with the last hour at which some walkers may go at all."""

    def __init__(self, book, caps):
        meadow = book.meadow
        self.book = book
        self.meadow = meadow
        self._gates = {(walker, path): min(book.gate(walker, path), caps.get(walker, meadow.hours))
                       for walker in meadow.walkers for path in meadow.path_names()}
        self._allowed = {sign: {mark: True for mark in book.allowed(sign)} for sign in meadow.sign_names()}
        self._later = [(note[1], note[2]) for note in book.notes if note[0] == "later"]
        self._nolater = [(note[1], note[2]) for note in book.notes if note[0] == "nolater"]

    def is_passable(self, walker, path, hour, freed):
        """Whether the path is open to the walker at the hour."""
        if self._gates[(walker, path)] < hour:
            return False
        return all([sign in freed for sign in self.meadow.watching(walker, path)])

    def ways(self, walker, hour, freed):
        """For each place in the reach of the walker a way from the home: the paths, each with its far end."""
        home = self.book.home(walker)
        found = {home: ()}
        waiting = [home]
        while len(waiting) > 0:
            place = waiting.pop(0)
            for path in self.meadow.paths_at(place):
                beyond = self.meadow.across(path, place)
                if beyond not in found and self.is_passable(walker, path, hour, freed):
                    found[beyond] = found[place] + ((path, beyond),)
                    waiting.append(beyond)
        return found

    def near(self, walker, hour, freed):
        """The reach of the walker, ascending."""
        return tuple(sorted(self.ways(walker, hour, freed)))

    def least_step(self, hour, freed):
        """The least going of the hour that can free, and behind it the signs that it frees; or None."""
        for walker in self.meadow.walkers:
            near = self.near(walker, hour, freed)
            for path, low, high in self.meadow.paths:
                for place in (low, high):
                    going = (hour, walker, path, place)
                    signs = self.signs_to_free(going, freed)
                    if place in near and len(signs) > 0 and self.may_free(going, signs, freed):
                        return going + (signs,)
        return None

    def signs_to_free(self, going, freed):
        """The signs that watch the going and are not freed."""
        return tuple([sign for sign in self.meadow.watching(going[1], going[2]) if sign not in freed])

    def may_free(self, going, signs, freed):
        """Whether gates and notes let the going be the last one that these signs watched."""
        if self._gates[(going[1], going[2])] < going[0]:
            return False
        if not all([going in self._allowed[sign] for sign in signs]):
            return False
        if not all([sign in freed for sign, other in self._later if other in signs]):
            return False
        return all([other in freed or other in signs for sign, other in self._nolater if sign in signs])

    def has_mark_by(self, sign, hour):
        """Whether some going that the sign may show falls into the hour or an earlier one."""
        return any([1 <= mark[0] <= hour for mark in self._allowed[sign]])
