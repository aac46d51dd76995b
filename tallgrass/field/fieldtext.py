"""The texts of meadows and of days."""

from tallgrass.base.checks import check_count, check_new
from tallgrass.base.errors import BadGoing, BadLine, GrassError
from tallgrass.base.words import number_of, words_of
from tallgrass.field.days import Day
from tallgrass.field.meadow import Meadow
from tallgrass.field.placing import placing_lines, read_placing
from tallgrass.field.rows import check_gate_row, check_path_row, check_sign_row


def meadow_text(meadow):
    lines = [f"hours {meadow.hours}"]
    lines.extend([f"place {name}" for name in meadow.places])
    lines.extend([f"walker {name}" for name in meadow.walkers])
    lines.extend([f"path {name} {low} {high}" for name, low, high in meadow.paths])
    lines.extend([f"gate {walker} {path} {hour}" for walker, path, hour in meadow.gates])
    lines.extend([sign_line(name, walkers, paths) for name, walkers, paths in meadow.signs])
    return "\n".join(lines)


def sign_line(name, walkers, paths):
    return " ".join(["sign", name, "walkers"] + list(walkers) + ["paths"] + list(paths))


def read_meadow(text):
    lines = text.split("\n")
    hours = hours_in(words_of(lines[0]))
    rows = {"place": [], "walker": [], "path": [], "gate": [], "sign": []}
    for number, line in enumerate(lines[1:], start=2):
        word, row = row_in(words_of(line))
        if word not in rows or not is_good(word, row, hours, rows):
            raise BadLine(number)
        rows[word].append(row)
    if len(rows["place"]) == 0 or len(rows["walker"]) == 0:
        raise BadLine(len(lines) + 1)
    return Meadow(hours, rows["place"], rows["walker"], rows["path"], gates=rows["gate"], signs=rows["sign"])


def hours_in(words):
    """The hours that the first line of a meadow tells."""
    hours = number_of(words[1]) if len(words) == 2 and words[0] == "hours" else 0
    if not 1 <= hours <= Meadow.MOST_HOURS:
        raise BadLine(1)
    return hours


def row_in(words):
    """The first word of a line of a meadow and the row that it declares; no word if it has none of the forms."""
    if len(words) == 2 and words[0] in ("place", "walker"):
        return (words[0], words[1])
    if len(words) == 4 and words[0] == "path":
        return ("path", (words[1], words[2], words[3]))
    if len(words) == 4 and words[0] == "gate":
        return ("gate", (words[1], words[2], number_of(words[3])))
    if len(words) > 3 and words[0] == "sign" and words[2] == "walkers" and "paths" in words[3:]:
        at = words[3:].index("paths")
        return ("sign", (words[1], words[3:3 + at], words[4 + at:]))
    return ("", ())


def is_good(word, row, hours, rows):
    try:
        check_row(word, row, hours, rows)
    except GrassError:
        return False
    return True


def check_row(word, row, hours, rows):
    """Checks a row against the rows of the lines ahead, as the meadow would."""
    earlier = rows[word]
    paths = [path[0] for path in rows["path"]]
    if word == "place":
        check_count(len(earlier) + 1, Meadow.MOST_PLACES)
        check_new(row, earlier)
    elif word == "walker":
        check_count(len(earlier) + 1, Meadow.MOST_WALKERS)
        check_new(row, earlier)
    elif word == "path":
        check_count(len(earlier) + 1, Meadow.MOST_PATHS)
        check_path_row(row, earlier, rows["place"])
    elif word == "gate":
        check_gate_row(row, earlier, hours, rows["walker"], paths)
    else:
        check_count(len(earlier) + 1, Meadow.MOST_SIGNS)
        check_sign_row(row, earlier, rows["walker"], paths)


def day_text(day):
    lines = placing_lines(day.starts(), "start")
    lines.extend([f"go {hour} {walker} {path} {place}" for hour, walker, path, place in day.goings])
    return "\n".join(lines)


def read_day(meadow, text):
    lines = text.split("\n")
    starts = read_placing(meadow, lines, "start")
    first = len(starts) + 1
    goings = [going_in(words_of(line)) for line in lines[len(starts):]]
    try:
        day = Day(meadow, starts, goings[:Day.MOST_GOINGS])
    except BadGoing as e:
        raise BadLine(first + e.index) from None
    if len(goings) > Day.MOST_GOINGS:
        raise BadLine(first + Day.MOST_GOINGS)
    return day


def going_in(words):
    """The going that a line of a day tells; one that is not possible if it has not this form."""
    if len(words) != 5 or words[0] != "go":
        return ()
    return (number_of(words[1]), words[2], words[3], words[4])
