"""Dicts from walkers to places: the starts and the homes, given or written in a text."""

from tallgrass.base.checks import check_all_entries
from tallgrass.base.errors import BadLine
from tallgrass.base.words import words_of


def all_places(meadow):
    """For each walker the places at which it may stand."""
    return {walker: meadow.places for walker in meadow.walkers}


def checked_placing(meadow, placing):
    """A copy of a dict that must have a place for every walker and no other key."""
    check_all_entries(placing, all_places(meadow))
    return {walker: placing[walker] for walker in meadow.walkers}


def placing_lines(placing, word):
    """The lines `WORD WALKER PLACE`."""
    return [f"{word} {walker} {placing[walker]}" for walker in placing]


def read_placing(meadow, lines, word):
    """Reads the lines `WORD WALKER PLACE` with which a text must begin."""
    placing = {}
    for at, walker in enumerate(meadow.walkers):
        words = words_of(lines[at]) if at < len(lines) else []
        if len(words) != 3 or words[:2] != [word, walker] or words[2] not in meadow.places:
            raise BadLine(at + 1)
        placing[walker] = words[2]
    return placing
