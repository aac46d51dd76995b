"""The sweep written down once more from its words, slowly, to compare with."""


def is_open(book, walker, path, hour, freed):
    return book.gate(walker, path) >= hour and all(sign in freed for sign in book.meadow.watching(walker, path))


def reach(book, walker, hour, freed):
    """The home and every place that is joined with it by open paths."""
    found = {book.home(walker)}
    for _ in book.meadow.places:
        for name, low, high in book.meadow.paths:
            if is_open(book, walker, name, hour, freed) and found & {low, high}:
                found |= {low, high}
    return found


def freeing(book, hour, freed):
    """All goings of the hour that can free, ascending, each with its T behind it."""
    meadow = book.meadow
    goings = [(hour, walker, path, place) for walker in meadow.walkers for path, *ends in meadow.paths for place in ends]
    found = []
    for going in sorted(goings):
        _, walker, path, place = going
        t = [sign for sign in meadow.watching(walker, path) if sign not in freed]
        if (book.gate(walker, path) >= hour and t
                and all(going in book.allowed(sign) for sign in t)
                and place in reach(book, walker, hour, freed)
                and all(note[1] in freed for note in book if note[0] == "later" and note[2] in t)
                and all(note[2] in freed or note[2] in t for note in book if note[0] == "nolater" and note[1] in t)):
            found.append((*going, tuple(t)))
    return found


def sweep(book, choose):
    """The steps of a sweep in which choose picks one of the goings that can free."""
    freed, steps = set(), []
    for hour in range(book.meadow.hours, 0, -1):
        while found := freeing(book, hour, freed):
            steps.append(choose(found))
            freed |= set(steps[-1][4])
    return steps


def lates(book, steps):
    late = {name: 0 for name, *_ in book.meadow.signs}
    for step in steps:
        for sign in step[4]:
            late[sign] = step[0]
    return late


def freed_under(table, hour):
    return {sign for sign in table if table[sign] >= hour}


def is_ceiling(book, table):
    return not any(freeing(book, hour, freed_under(table, hour)) for hour in range(1, book.meadow.hours + 1))


def is_barred(book, table):
    """Whether one of the five conditions for barring holds under the table."""
    def near(walker, hour):
        return reach(book, walker, hour, freed_under(table, hour))
    meadow = book.meadow
    return any([
        any(note[0] == "away" and book.home(note[1]) == note[2] for note in book),
        any(book.must(sign) and not any(1 <= mark[0] <= table[sign] for mark in book.allowed(sign))
            for sign, *_ in meadow.signs),
        any(not near(walker, 1) & set(book.may_start(walker)) for walker in meadow.walkers),
        any(note[0] == "at" and note[2] not in near(note[1], note[3]) for note in book),
        any(note[0] == "on" and not (is_open(book, note[1], note[2], note[3], freed_under(table, note[3]))
                                     and near(note[1], note[3]) & set(meadow.ends(note[2]))) for note in book),
    ])
