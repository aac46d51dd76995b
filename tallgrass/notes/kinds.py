"""The eight kinds of notes: their normal form, their opposites, and whether they hold."""

from tallgrass.base.checks import check_known
from tallgrass.base.errors import BadMark, BadNote
from tallgrass.field.meadow import OLD

SIZES = {"shows": 3, "start": 3, "at": 4, "away": 4, "on": 4, "off": 4, "later": 3, "nolater": 3}
OPPOSITES = {"at": "away", "away": "at", "on": "off", "off": "on", "later": "nolater", "nolater": "later"}
LIMITS = ("first", "last", "old", "path", "place", "walker")


def normal_note(meadow, note):
    """The note with its marks or places ascending and without duplicates."""
    if len(note) == 0 or note[0] not in list(SIZES) or len(note) != SIZES[note[0]]:
        raise BadNote(note)
    if note[0] == "shows":
        return normal_shows(meadow, note)
    if note[0] == "start":
        return normal_start(meadow, note)
    if note[0] in ("later", "nolater"):
        return normal_order(meadow, note)
    return normal_hour(meadow, note)


def normal_shows(meadow, note):
    word, sign, marks = note
    meadow.check_sign(sign)
    for mark in marks:
        if not meadow.is_mark(sign, mark):
            raise BadMark(mark)
    return (word, sign, tuple(sorted(set(marks))))


def normal_start(meadow, note):
    word, walker, places = note
    meadow.check_walker(walker)
    for place in places:
        meadow.check_place(place)
    return (word, walker, tuple(sorted(set(places))))


def normal_order(meadow, note):
    """Checks a note that compares the last goings of two signs."""
    meadow.check_sign(note[1])
    meadow.check_sign(note[2])
    if note[1] == note[2]:
        raise BadNote(note)
    return note


def normal_hour(meadow, note):
    """Checks a note that ends with an hour."""
    meadow.check_walker(note[1])
    if note[0] in ("at", "away"):
        meadow.check_place(note[2])
    else:
        meadow.check_path(note[2])
    meadow.check_hour(note[3])
    return note


def opposite(meadow, note):
    """The note that holds in a day exactly if this one does not."""
    normal = normal_note(meadow, note)
    if normal[0] == "shows":
        return ("shows", normal[1], all_but(meadow.all_marks(normal[1]), normal[2]))
    if normal[0] == "start":
        return ("start", normal[1], all_but(meadow.places, normal[2]))
    return (OPPOSITES[normal[0]],) + normal[1:]


def all_but(whole, part):
    left_out = {item: True for item in part}
    return tuple([item for item in whole if item not in left_out])


def holds(day, note):
    return normal_holds(day, normal_note(day.meadow, note))


def normal_holds(day, note):
    """Whether a note holds that is known to be in normal form."""
    word = note[0]
    if word == "shows":
        return day.shown(note[1]) in note[2]
    if word == "start":
        return day.start(note[1]) in note[2]
    if word == "at":
        return is_at(day, note[1], note[2], note[3])
    if word == "away":
        return not is_at(day, note[1], note[2], note[3])
    if word == "on":
        return is_on(day, note[1], note[2], note[3])
    if word == "off":
        return not is_on(day, note[1], note[2], note[3])
    if word == "later":
        return day.last(note[1]) > day.last(note[2])
    return day.last(note[1]) <= day.last(note[2])


def is_at(day, walker, place, hour):
    """Whether the walker is at the place in the evening, or leaves it at the hour or later."""
    if day.home(walker) == place:
        return True
    return any([going[1] == walker and going[0] >= hour and day.meadow.across(going[2], going[3]) == place
                for going in day.goings])


def is_on(day, walker, path, hour):
    return any([going[1] == walker and going[0] >= hour and going[2] == path for going in day.goings])


def marks_where(meadow, sign, **limits):
    """The marks of the sign that meet all limits."""
    marks = meadow.all_marks(sign)
    for word in sorted(list(limits)):
        check_known(word, LIMITS)
    return tuple([mark for mark in marks if meets(mark, limits)])


def meets(mark, limits):
    if mark == OLD:
        return limits.get("old", False) is True
    hour, walker, path, place = mark
    return (limits.get("walker", walker) == walker and limits.get("path", path) == path
            and limits.get("place", place) == place
            and limits.get("first", hour) <= hour <= limits.get("last", hour))
