"""The text of a desk."""

from tallgrass.base.errors import BadLine
from tallgrass.base.words import number_of, words_of
from tallgrass.desk.desk import MOST_NUMBERS, Desk
from tallgrass.field.placing import placing_lines, read_placing
from tallgrass.notes.book import Book
from tallgrass.notes.notetext import note_text, read_nth_note


def desk_text(desk):
    lines = placing_lines(desk.homes(), "home")
    lines.append(f"next {desk.following()}")
    lines.extend([f"note {number} {note_text(desk.meadow, note)}" for number, note in desk.standing])
    return "\n".join(lines)


def read_desk(meadow, text):
    """A desk with the state that the text tells."""
    lines = text.split("\n")
    homes = read_placing(meadow, lines, "home")
    following = read_next(lines, len(homes) + 1)
    standing = ()
    for number in range(len(homes) + 2, len(lines) + 1):
        row = read_standing(meadow, lines[number - 1], number)
        least = standing[-1][0] + 1 if len(standing) > 0 else 1
        if row[0] not in range(least, following) or row[1] in [note for _, note in standing]:
            raise BadLine(number)
        if len(standing) == Book.MOST_NOTES:
            raise BadLine(number)
        standing = standing + (row,)
    desk = Desk(meadow, homes)
    desk.go_to(((following, standing), (), ()))
    return desk


def read_next(lines, number):
    """Reads the line `next N`, which is the given line of the text."""
    words = words_of(lines[number - 1]) if number <= len(lines) else []
    if len(words) != 2 or words[0] != "next" or number_of(words[1]) not in range(1, MOST_NUMBERS + 2):
        raise BadLine(number)
    return number_of(words[1])


def read_standing(meadow, line, number):
    """Reads the line `note N NOTE`, which is the given line of the text, as the number and the note."""
    words = words_of(line)
    if len(words) < 3 or words[0] != "note":
        raise BadLine(number)
    return (number_of(words[1]), read_nth_note(meadow, " ".join(words[2:]), number))
