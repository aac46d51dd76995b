"""Random notes and books, always the same ones."""

import random

from tallgrass.notes.book import Book


def random_note(meadow, rng):
    word = rng.choice(["shows"] * 4 + ["start", "at", "away", "on", "off", "later", "nolater"])
    hour = rng.randint(1, meadow.hours)
    walker = rng.choice(meadow.walkers)
    if word == "shows":
        sign = rng.choice(meadow.signs)[0]
        marks = meadow.all_marks(sign)
        return (word, sign, rng.sample(marks, rng.randint(1, len(marks))))
    if word == "start":
        return (word, walker, rng.sample(meadow.places, rng.randint(1, len(meadow.places))))
    if word in ("at", "away"):
        return (word, walker, rng.choice(meadow.places), hour)
    if word in ("on", "off"):
        return (word, walker, rng.choice(meadow.paths)[0], hour)
    return (word, *rng.sample([sign[0] for sign in meadow.signs], 2))


def random_book(meadow, rng, most):
    homes = {walker: rng.choice(meadow.places) for walker in meadow.walkers}
    return Book(meadow, homes, *[random_note(meadow, rng) for _ in range(rng.randint(0, most))])


def random_books(meadow, count, most=6, seed=7):
    rng = random.Random(seed)
    return [random_book(meadow, rng, most) for _ in range(count)]
