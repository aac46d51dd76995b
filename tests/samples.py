"""Random notes and books, always the same ones, and the days with few goings that fit them."""

import functools
import random

from helpers import all_days, small_meadows
from tallgrass.base.errors import BadNote
from tallgrass.field.meadow import Meadow
from tallgrass.notes.book import Book
from tallgrass.sides.side import Side


def random_note(meadow, rng):
    word = rng.choice(["shows"] * 4 + ["start", "at", "away", "on", "off", "later", "nolater"])
    hour = rng.randint(1, meadow.hours)
    walker = rng.choice(meadow.walkers)
    if word == "shows":
        sign = rng.choice(meadow.signs)[0]
        marks = meadow.all_marks(sign)
        return (word, sign, rng.sample(marks, rng.randint(1, len(marks))))
    if word == "start":
        return (word, walker, rng.sample(meadow.places, rng.randint(1, len(meadow.places))))
    if word in ("at", "away"):
        return (word, walker, rng.choice(meadow.places), hour)
    if word in ("on", "off"):
        return (word, walker, rng.choice(meadow.paths)[0], hour)
    return (word, *rng.sample([sign[0] for sign in meadow.signs], 2))


def random_book(meadow, rng, most):
    homes = {walker: rng.choice(meadow.places) for walker in meadow.walkers}
    return Book(meadow, homes, *[random_note(meadow, rng) for _ in range(rng.randint(0, most))])


def random_books(meadow, count, most=6, seed=7):
    rng = random.Random(seed)
    return [random_book(meadow, rng, most) for _ in range(count)]


@functools.cache
def days_by_homes(at):
    """All days with few goings of a small meadow, by the tuple of their homes."""
    found = {}
    for day in all_days(small_meadows()[at], (4, 3, 3, 3)[at]):
        found.setdefault(tuple(day.homes().values()), []).append(day)
    return found


def fitting(at, book):
    """The days with few goings that fit a book about a small meadow."""
    return [day for day in days_by_homes(at).get(tuple(book.homes().values()), []) if book.fits(day)]


@functools.cache
def sampled(at, count=30, most=4, seed=11):
    """Books about a small meadow, each with the days with few goings that fit."""
    return [(book, fitting(at, book)) for book in random_books(small_meadows()[at], count, most, seed)]


def all_sampled():
    """Books about all the small meadows with the days with few goings that fit."""
    return [pair for at in range(len(small_meadows())) for pair in sampled(at)]


def random_side(rng, walkers, outsiders, places="abm", path="p", sign="u", hours=2, most=4):
    """A side joined at m; the names of its paths and signs begin with the letters."""
    while True:
        rows = [(f"{path}{at}", *rng.sample(places, 2)) for at in range(rng.randint(1, 4))]
        names = [row[0] for row in rows]
        gates = [(walker, name, rng.randint(0, hours)) for walker in walkers for name in names if rng.random() < 0.2]
        signs = [(f"{sign}{at}", rng.sample(walkers, rng.randint(1, len(walkers))), rng.sample(names, rng.randint(1, len(names))))
                 for at in range(rng.randint(2, 4))]
        meadow = Meadow(hours, list(places), walkers, rows, gates=gates, signs=signs)
        homes = {walker: "m" if walker in outsiders else rng.choice(places) for walker in walkers}
        notes = [random_note(meadow, rng) for _ in range(rng.randint(1, most))]
        try:
            return Side(Book(meadow, homes, *notes), "m", outsiders)
        except BadNote:
            continue
