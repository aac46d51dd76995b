"""The texts of notes and of books."""

from tallgrass.base.errors import BadLine, GrassError
from tallgrass.base.words import number_of, words_of
from tallgrass.field.meadow import OLD
from tallgrass.field.placing import placing_lines, read_placing
from tallgrass.notes.book import Book
from tallgrass.notes.kinds import normal_note


def mark_text(mark):
    if mark == OLD:
        return "old"
    return ":".join([str(item) for item in mark])


def mark_in(word):
    """The mark that a word writes, or a tuple that is not a mark of any sign."""
    if word == "old":
        return OLD
    parts = word.split(":")
    if len(parts) != 4 or number_of(parts[0]) < 1:
        return ()
    return (number_of(parts[0]), parts[1], parts[2], parts[3])


def note_text(meadow, note):
    word, name, *rest = normal_note(meadow, note)
    if word == "shows":
        rest = [mark_text(mark) for mark in rest[0]]
    elif word == "start":
        rest = rest[0]
    return " ".join([word, name] + [str(item) for item in rest])


def note_in(words):
    """The note that the words of a line tell, not checked; one that is bad if they have none of the forms."""
    if len(words) > 1 and words[0] == "shows":
        return ("shows", words[1], [mark_in(word) for word in words[2:]])
    if len(words) > 1 and words[0] == "start":
        return ("start", words[1], words[2:])
    if len(words) == 4:
        return (words[0], words[1], words[2], number_of(words[3]))
    return tuple(words)


def read_note(meadow, line):
    note = note_in(words_of(line))
    try:
        normal = normal_note(meadow, note)
    except GrassError:
        raise BadLine(1) from None
    if note[0] in ("shows", "start") and len(note[2]) != len(normal[2]):
        raise BadLine(1)
    return normal


def book_text(book):
    lines = placing_lines(book.homes(), "home")
    lines.extend([note_text(book.meadow, note) for note in book.notes])
    return "\n".join(lines)


def read_book(meadow, text):
    lines = text.split("\n")
    homes = read_placing(meadow, lines, "home")
    notes = []
    for number, line in enumerate(lines[len(homes):], start=len(homes) + 1):
        note = read_nth_note(meadow, line, number)
        if note in notes or len(notes) == Book.MOST_NOTES:
            raise BadLine(number)
        notes.append(note)
    return Book.made(meadow, homes, notes)


def read_nth_note(meadow, line, number):
    """Reads a note that is the given line of a longer text."""
    try:
        return read_note(meadow, line)
    except BadLine:
        raise BadLine(number) from None
