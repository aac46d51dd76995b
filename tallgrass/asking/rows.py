"""Rows of notes in normal form and the words of operators, each operator behind what it stands for.

So `( not A or B )` is the row A, not, B, or. A row begins with a note.
"""

from tallgrass.base.errors import BadLine
from tallgrass.base.words import words_of
from tallgrass.notes.notetext import note_text, read_note

MOST_OPERATORS = 30
PAIRING = ("and", "or")
ENDS = ("and", "or", ")")


def operators_in(row):
    return len([item for item in row if isinstance(item, str)])


def truth_of(row, truths):
    """Whether a row is true where the notes are as true as the dict tells."""
    found = []
    for item in row:
        if item == "not":
            found = found[:-1] + [not found[-1]]
        elif item == "and":
            found = found[:-2] + [found[-2] and found[-1]]
        elif item == "or":
            found = found[:-2] + [found[-2] or found[-1]]
        else:
            found = found + [truths[item]]
    return found[0]


def row_text(meadow, row):
    found = []
    for item in row:
        if item == "not":
            found = found[:-1] + [f"not {found[-1]}"]
        elif item in PAIRING:
            found = found[:-2] + [f"( {found[-2]} {item} {found[-1]} )"]
        else:
            found = found + [note_text(meadow, item)]
    return found[0]


def read_row(meadow, text):
    """The row of the question that a text tells."""
    words = words_of(text)
    # Counted first, so that no text leads deeper than the longest question.
    if words.count("not") + words.count("(") > MOST_OPERATORS:
        raise BadLine(1)
    row, at = row_from(meadow, words, 0)
    if at != len(words):
        raise BadLine(1)
    return row


def row_from(meadow, words, at):
    """The row of the question that begins at a word, and where its words end."""
    if word_at(words, at) == "not":
        row, end = row_from(meadow, words, at + 1)
        return (row + ("not",), end)
    if word_at(words, at) != "(":
        end = end_of_note(words, at)
        return ((read_note(meadow, " ".join(words[at:end])),), end)
    first, middle = row_from(meadow, words, at + 1)
    word = word_at(words, middle)
    second, end = row_from(meadow, words, middle + 1)
    if word not in PAIRING or word_at(words, end) != ")":
        raise BadLine(1)
    return (first + second + (word,), end + 1)


def word_at(words, at):
    """The word, or an empty one behind the last."""
    if at < len(words):
        return words[at]
    return ""


def end_of_note(words, at):
    while at < len(words) and words[at] not in ENDS:
        at += 1
    return at
