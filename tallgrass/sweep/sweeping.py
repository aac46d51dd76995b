"""The sweep of a book."""

from tallgrass.sweep.ground import Ground, freed_at


def steps_over(ground):
    """The steps of the sweep that goes over the ground."""
    freed = {}
    steps = []
    for hour in range(ground.meadow.hours, 0, -1):
        step = ground.least_step(hour, freed)
        while step is not None:
            steps.append(step)
            for sign in step[4]:
                freed[sign] = hour
            step = ground.least_step(hour, freed)
    return steps


def lates_of(meadow, steps):
    """For each sign the hour of the step that frees it, or 0."""
    freed = {sign: step[0] for step in steps for sign in step[4]}
    return {sign: freed.get(sign, 0) for sign in meadow.sign_names()}


class Sweep:
    """The sweep of a book; ground is what it went over."""

    def __init__(self, book):
        self.book = book
        self.ground = Ground(book, {})
        self.order = tuple(steps_over(self.ground))
        self._lates = lates_of(book.meadow, self.order)

    def late(self, sign):
        """The hour at which the sign is freed, or 0."""
        self.book.meadow.check_sign(sign)
        return self._lates[sign]

    def lates(self):
        return dict(self._lates)

    def freed(self, hour):
        """The signs that are freed at the hour or at a later one."""
        self.book.meadow.check_hour(hour)
        return tuple(freed_at(self._lates, hour))

    def passable(self, walker, path, hour):
        """Whether the path is open to the walker once all signs of the hour are freed."""
        self.book.meadow.check_walker(walker)
        self.book.meadow.check_path(path)
        self.book.meadow.check_hour(hour)
        return self.ground.is_passable(walker, path, hour, freed_at(self._lates, hour))

    def reach(self, walker, hour):
        """The places at which the walker can be at the hour, if some day fits."""
        self.book.meadow.check_walker(walker)
        self.book.meadow.check_hour(hour)
        return self.ground.near(walker, hour, freed_at(self._lates, hour))


def sweep(book):
    return Sweep(book)


def sweep_table(book):
    """One line for each sign: its name, the hour at which it is freed, and whether it must be touched."""
    swept = Sweep(book)
    return [table_line(sign, swept.late(sign), book.must(sign)) for sign in book.meadow.sign_names()]


def table_line(sign, late, must):
    word = "must" if must else "may"
    return f"{sign:<5}{late:>3} {word}"
