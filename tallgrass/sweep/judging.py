"""Judging tables: whether they are ceilings of a book, and whether they bar it."""

from tallgrass.sweep.faults import faults_under
from tallgrass.sweep.ground import Ground, freed_at


def is_table(meadow, table):
    """Whether a dict has a number from 0 to hours for every sign and nothing else."""
    signs = meadow.sign_names()
    if len(table) != len(signs) or not all([sign in table for sign in signs]):
        return False
    return all([table[sign] in range(0, meadow.hours + 1) for sign in signs])


def is_ceiling(book, table):
    """Whether at no hour any going can free under the table."""
    if not is_table(book.meadow, table):
        return False
    ground = Ground(book, {})
    return all([ground.least_step(hour, freed_at(table, hour)) is None
                for hour in range(1, book.meadow.hours + 1)])


def bars(book, table):
    """Whether the table is a ceiling under which no day can fit."""
    if not is_ceiling(book, table):
        return False
    return len(faults_under(Ground(book, {}), table)) > 0
