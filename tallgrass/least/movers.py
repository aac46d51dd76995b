"""Who can have been the only ones to go."""

from tallgrass.base.checks import check_each
from tallgrass.base.choices import choices
from tallgrass.sweep.faults import faults_under
from tallgrass.sweep.ground import Ground
from tallgrass.sweep.sweeping import lates_of, steps_over


def can_alone(book, walkers):
    """Whether in some day that fits only these walkers go."""
    meadow = book.meadow
    check_each(walkers, meadow.walkers)
    ground = Ground(book, {walker: 0 for walker in meadow.walkers if walker not in walkers})
    return len(faults_under(ground, lates_of(meadow, steps_over(ground)))) == 0


def least_movers(book):
    """The sets of walkers that can have gone alone, while none of their parts can."""
    found = []
    for count in range(len(book.meadow.walkers) + 1):
        for walkers in choices(book.meadow.walkers, count):
            if not any([is_part(other, walkers) for other in found]) and can_alone(book, walkers):
                found.append(walkers)
    return sorted(found)


def is_part(names, whole):
    return all([name in whole for name in names])
