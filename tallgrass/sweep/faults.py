"""What stands against any day that fits, if no sign is touched after its hour in a table."""

from tallgrass.sweep.ground import freed_at


def faults_under(ground, table):
    """The notes, signs and walkers for which the table leaves no day.

    For the table of the sweep these are the conditions under which some day fits: a sign that is
    freed has an allowed going at its hour, and one that is not freed has the hour 0.
    """
    book = ground.book
    faults = [("note", note) for note in book.notes if not is_note_met(ground, table, note)]
    faults.extend([("sign", sign) for sign in book.meadow.sign_names()
                   if book.must(sign) and not ground.has_mark_by(sign, table[sign])])
    faults.extend([("walker", walker) for walker in book.meadow.walkers
                   if not is_start_met(ground, table, walker)])
    return faults


def is_note_met(ground, table, note):
    """Whether an away, at or on note can hold; the other kinds are looked at elsewhere."""
    if note[0] == "away":
        return ground.book.home(note[1]) != note[2]
    if note[0] not in ("at", "on"):
        return True
    word, walker, name, hour = note
    freed = freed_at(table, hour)
    near = ground.near(walker, hour, freed)
    if word == "at":
        return name in near
    ends = ground.meadow.ends(name)
    return ground.is_passable(walker, name, hour, freed) and any([end in near for end in ends])


def is_start_met(ground, table, walker):
    near = ground.near(walker, 1, freed_at(table, 1))
    return any([place in near for place in ground.book.may_start(walker)])
