"""Checks that many parts of the program share."""

from tallgrass.base.errors import BadName, BadNumber, BadPlacing, TooMany, Twice, Unknown
from tallgrass.base.words import is_name

# The notes that a book may have where notes are added to it or taken away to find something out.
MOST_ASKED = 16


def check_number(number, least, most):
    if number not in range(least, most + 1):
        raise BadNumber(number)


def check_count(count, most):
    if count > most:
        raise TooMany(most)


def check_known(name, known):
    if name not in known:
        raise Unknown(name)


def check_new(name, earlier):
    """Checks a name that is to be declared behind the earlier ones."""
    if not is_name(name):
        raise BadName(name)
    if name in earlier:
        raise Twice(name)


def check_each(names, known):
    """Checks names from the first: each must be known and stand once."""
    for at, name in enumerate(names):
        check_known(name, known)
        if name in names[:at]:
            raise Twice(name)


def check_some(names, known):
    """Checks names of which there must be at least one."""
    if len(names) == 0:
        raise BadNumber(0)
    check_each(names, known)


def check_entries(table, allowed):
    """Checks a dict, from its least key, against another one that has for each key what may stand there."""
    for name in sorted(table):
        if name not in allowed or table[name] not in allowed[name]:
            raise BadPlacing(name)


def check_all_entries(table, allowed):
    """Checks a dict in the same way that must have an entry for every key of the other one."""
    for name in sorted(list(allowed) + list(table)):
        if name not in table or name not in allowed or table[name] not in allowed[name]:
            raise BadPlacing(name)
