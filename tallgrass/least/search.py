"""The search for a shortest day, backwards from the evening."""


def least_goings(ground):
    """The fewest goings, from the morning on, of a day that fits a book; some day must, and it has no at and on notes.

    It goes backwards, so that the first going that a sign watches is the one that it shows in the
    evening. A state is an hour, the places of the walkers, and the signs that are touched.
    """
    book = ground.book
    must = [sign for sign in ground.meadow.sign_names() if book.must(sign)]
    starts = [book.may_start(walker) for walker in ground.meadow.walkers]
    row = [(ground.meadow.hours, tuple([book.home(walker) for walker in ground.meadow.walkers]), ())]
    came = {row[0]: ()}
    mornings = [state for state in row if is_morning(state, must, starts)]
    while len(mornings) == 0:
        steps = steps_ahead(ground, came, row)
        for state in steps:
            came[state] = steps[state]
        row = list(steps)
        mornings = [state for state in row if is_morning(state, must, starts)]
    return goings_from(came, mornings[0])


def steps_ahead(ground, came, row):
    """For each unknown state that is one going ahead of a row: the going, and the state to which it leads."""
    steps = {}
    for state in row:
        for going, before in states_ahead(ground, state):
            if before not in came and before not in steps:
                steps[before] = (going, state)
    return steps


def goings_from(came, state):
    """The goings from a state to the evening."""
    goings = []
    while len(came[state]) > 0:
        going, state = came[state]
        goings.append(going)
    return goings


def states_ahead(ground, state):
    """The goings that can have led to a state, each with the state ahead of it."""
    hour, places, touched = state
    found = []
    for at, walker in enumerate(ground.meadow.walkers):
        for path in ground.meadow.paths_at(places[at]):
            before = places[:at] + (ground.meadow.across(path, places[at]),) + places[at + 1:]
            for number in range(1, hour + 1):
                going = (number, walker, path, places[at])
                signs = ground.signs_to_free(going, touched)
                if ground.may_free(going, signs, touched):
                    found.append((going, (number, before, tuple(sorted(touched + signs)))))
    return found


def is_morning(state, must, starts):
    """Whether a day that fits can begin like this."""
    _, places, touched = state
    if not all([sign in touched for sign in must]):
        return False
    return all([place in allowed for place, allowed in zip(places, starts)])
