"""Readings: sets of marks of one sign."""

from tallgrass.base.errors import Clash
from tallgrass.field.meadow import OLD
from tallgrass.notes.kinds import all_but, normal_note


class Reading:
    """A reading is never modified; marks is an ascending tuple."""

    def __init__(self, meadow, sign, marks):
        self.meadow = meadow
        self.sign = sign
        self.marks = normal_note(meadow, ("shows", sign, marks))[2]

    @classmethod
    def every(cls, meadow, sign):
        return cls(meadow, sign, meadow.all_marks(sign))

    @classmethod
    def nothing(cls, meadow, sign):
        return cls(meadow, sign, ())

    @property
    def old(self):
        return OLD in self.marks

    def __eq__(self, other):
        return (isinstance(other, Reading) and self.meadow == other.meadow
                and self.sign == other.sign and self.marks == other.marks)

    def __len__(self):
        return len(self.marks)

    def __iter__(self):
        return iter(self.marks)

    def __contains__(self, x):
        return x in self.marks

    def __and__(self, other):
        self.check_alike(other)
        return Reading(self.meadow, self.sign, sorted(set(self.marks) & set(other.marks)))

    def __or__(self, other):
        self.check_alike(other)
        return Reading(self.meadow, self.sign, sorted(set(self.marks) | set(other.marks)))

    def __sub__(self, other):
        self.check_alike(other)
        return Reading(self.meadow, self.sign, sorted(set(self.marks) - set(other.marks)))

    def __xor__(self, other):
        self.check_alike(other)
        return Reading(self.meadow, self.sign, sorted(set(self.marks) ^ set(other.marks)))

    def __invert__(self):
        return Reading(self.meadow, self.sign, all_but(self.meadow.all_marks(self.sign), self.marks))

    def check_alike(self, other):
        """Checks that the other reading is of the same sign in an equal meadow."""
        if self.meadow != other.meadow or self.sign != other.sign:
            raise Clash()

    def within(self, other):
        """Whether every mark of this reading is in the other one, too."""
        return len(self - other) == 0

    def as_note(self):
        return ("shows", self.sign, self.marks)
