"""Random notes and books, always the same ones, and the days with few goings that fit them."""

import functools
import random

from helpers import all_days, small_meadows
from tallgrass.notes.book import Book


def random_note(meadow, rng):
    word = rng.choice(["shows"] * 4 + ["start", "at", "away", "on", "off", "later", "nolater"])
    hour = rng.randint(1, meadow.hours)
    walker = rng.choice(meadow.walkers)
    if word == "shows":
        sign = rng.choice(meadow.signs)[0]
        marks = meadow.all_marks(sign)
        return (word, sign, rng.sample(marks, rng.randint(1, len(marks))))
    if word == "start":
        return (word, walker, rng.sample(meadow.places, rng.randint(1, len(meadow.places))))
    if word in ("at", "away"):
        return (word, walker, rng.choice(meadow.places), hour)
    if word in ("on", "off"):
        return (word, walker, rng.choice(meadow.paths)[0], hour)
    return (word, *rng.sample([sign[0] for sign in meadow.signs], 2))


def random_book(meadow, rng, most):
    homes = {walker: rng.choice(meadow.places) for walker in meadow.walkers}
    return Book(meadow, homes, *[random_note(meadow, rng) for _ in range(rng.randint(0, most))])


def random_books(meadow, count, most=6, seed=7):
    rng = random.Random(seed)
    return [random_book(meadow, rng, most) for _ in range(count)]


@functools.cache
def days_by_homes(at):
    """All days with few goings of a small meadow, by the tuple of their homes."""
    found = {}
    for day in all_days(small_meadows()[at], (4, 3, 3, 3)[at]):
        found.setdefault(tuple(day.homes().values()), []).append(day)
    return found


def fitting(at, book):
    """The days with few goings that fit a book about a small meadow."""
    return [day for day in days_by_homes(at).get(tuple(book.homes().values()), []) if book.fits(day)]


@functools.cache
def sampled(at, count=30, most=4, seed=11):
    """Books about a small meadow, each with the days with few goings that fit."""
    return [(book, fitting(at, book)) for book in random_books(small_meadows()[at], count, most, seed)]


def all_sampled():
    """Books about all the small meadows with the days with few goings that fit."""
    return [pair for at in range(len(small_meadows())) for pair in sampled(at)]
