"""The text of a desk: point 72, and tallgrass/desk/desktext.py."""

import random
import unittest

from helpers import GrassCase, line_meadow, small_meadows
from samples import random_note
from tallgrass.base.errors import BadLine, GrassError, NotThere, TooMany
from tallgrass.desk.desk import Desk
from tallgrass.desk.desktext import desk_text, read_desk
from tallgrass.field.meadow import OLD
from tallgrass.notes.notetext import note_text
from test_desk import NOTES

MEADOW = line_meadow(3)
HOMES = {"r": "a", "s": "c"}
TEXT = "home r a\nhome s c\nnext 5\nnote 1 at r b 2\nnote 3 shows p old 2:r:p:a\nnote 4 start s"


class Written(GrassCase):
    def test_a_desk(self):
        desk = Desk(MEADOW, {"s": "c", "r": "a"})
        self.assertEqual(desk_text(desk), "home r a\nhome s c\nnext 1")
        desk.tell(("at", "r", "b", 2))
        desk.tell(("off", "s", "q", 3))
        desk.together([("shows", "p", [(2, "r", "p", "a"), OLD]), ("start", "s", [])])
        desk.strike(2)
        self.assertEqual(desk_text(desk), TEXT)
        desk.strike(4)
        self.assertEqual(desk_text(desk), "\n".join(TEXT.split("\n")[:-1]))
        desk.undo()
        desk.undo()
        desk.undo()
        self.assertEqual(desk_text(desk), "home r a\nhome s c\nnext 3\nnote 1 at r b 2\nnote 2 off s q 3")

    def test_by_number(self):
        desk = Desk(MEADOW, HOMES)
        desk.together(NOTES[10:0:-1])
        self.assertEqual(desk_text(desk).split("\n")[3:], [f"note {at + 1} {note_text(MEADOW, NOTES[10 - at])}" for at in range(10)])


class Read(GrassCase):
    def check_bad(self, line, text):
        self.check_error(BadLine, line, read_desk, MEADOW, text)

    def changed(self, number, line):
        """The text with another line in the place of one; none if the line is None."""
        lines = TEXT.split("\n")
        lines[number - 1:number] = [] if line is None else [line]
        return "\n".join(lines)

    def test_a_desk(self):
        desk = read_desk(MEADOW, TEXT)
        self.assertIsInstance(desk, Desk)
        self.assertEqual((desk.meadow, desk.homes(), desk.limit), (MEADOW, HOMES, 20))
        self.assertEqual(desk.standing, ((1, ("at", "r", "b", 2)), (3, ("shows", "p", (OLD, (2, "r", "p", "a")))),
                                         (4, ("start", "s", ()))))
        self.check_error(NotThere, 0, desk.undo)
        self.check_error(NotThere, 0, desk.redo)
        self.assertEqual(desk.tell(NOTES[0]), 5)
        desk.undo()
        self.assertEqual(desk_text(desk), TEXT)
        self.assertEqual(desk.strike(3)[0], "shows")
        desk.undo()
        self.check_error(NotThere, 0, desk.undo)

    def test_there_and_back(self):
        rng = random.Random(61)
        for _ in range(60):
            meadow = rng.choice(small_meadows())
            desk = Desk(meadow, {walker: rng.choice(meadow.places) for walker in meadow.walkers})
            for _ in range(rng.randint(0, 15)):
                try:
                    desk.tell(random_note(meadow, rng))
                    if rng.random() < 0.3:
                        desk.strike(rng.choice(desk.standing)[0])
                except GrassError:
                    desk.undo()
            text = desk_text(desk)
            found = read_desk(meadow, text)
            self.assertEqual(desk_text(found), text)
            self.assertEqual((found.standing, found.homes(), found.limit), (desk.standing, desk.homes(), 20))
            self.assertEqual(found.current(), desk.current())

    def test_the_limit_is_not_read(self):
        desk = Desk(MEADOW, HOMES)
        desk.together(NOTES[:4])
        desk.limit = 2
        self.assertEqual(read_desk(MEADOW, desk_text(desk)).limit, 20)

    def test_other_forms_of_notes(self):
        desk = read_desk(MEADOW, "home r a\nhome s c\nnext 3\nnote 1 shows p 2:r:p:a old\nnote 2 start r c a")
        self.assertEqual(desk.standing, ((1, ("shows", "p", (OLD, (2, "r", "p", "a")))), (2, ("start", "r", ("a", "c")))))

    def test_the_next_number(self):
        for number in (1, 2, 900, 901):
            desk = read_desk(MEADOW, f"home r a\nhome s c\nnext {number}")
            self.assertEqual(desk_text(desk).split("\n")[2], f"next {number}")
            if number < 901:
                self.assertEqual(desk.tell(NOTES[0]), number)
                self.assertEqual(desk.strike(number), NOTES[0])
                desk.undo()
            if number > 899:
                self.check_error(TooMany, 900, desk.tell, NOTES[1])
        desk = read_desk(MEADOW, "home r a\nhome s c\nnext 901\nnote 900 at r a 1")
        self.assertEqual(desk.strike(900), NOTES[0])
        for line in ("next 0", "next 902", "next 999", "next 1000", "next 05", "next -1", "next", "next 5 5", "next x", "next  5", " next 5",
                     "next 5 ", "Next 5", "note 5", "", "next 9" + "0" * 5000):
            self.check_bad(3, self.changed(3, line))

    def test_homes(self):
        for number, line in ((1, "home r z"), (1, "home s c"), (1, "home x a"), (1, "start r a"), (1, ""), (1, "home r a "), (1, "home r"),
                             (2, "home r a"), (2, "home s p"), (2, "home  s c"), (2, "next 5"), (1, "home r a a")):
            self.check_bad(number, self.changed(number, line))
        self.check_bad(1, "home s c\nhome r a\nnext 5")
        self.check_bad(3, "home r a\nhome s c\nhome t a\nnext 5")
        self.check_bad(1, self.changed(1, None))
        self.check_bad(2, self.changed(2, None))
        self.check_bad(3, self.changed(3, None))

    def test_notes(self):
        for line in ("note 1 at r b 2", "note 0 at r c 2", "note 5 at r c 2", "note 6 at r c 2", "note 02 at r c 2", "note x at r c 2",
                     "note at r c 2", "note 3", "note", "", "note 3 at r b 2", "note 3 at r b 4", "note 3 at x b 2", "note 3  at r c 2",
                     "note 3 at r c 2 ", " note 3 at r c 2", "note 3 stop", "note 3 shows p old old", "note 3 later p p", "next 5",
                     "home r a", "tell at r c 2", "note -1 at r c 2", "note 3 at r c 02", "note 1000 at r c 2", "note 3 shows q 0:r:q:b",
                     "note 3\tat r c 2", "note 2" + "0" * 5000 + " at r c 2"):
            self.check_bad(5, self.changed(5, line))
        self.assertEqual(len(read_desk(MEADOW, self.changed(5, "note 2 at r c 2")).standing), 3)
        for line in ("tell 1 at r c 2", "Note 1 at r c 2", "note 0 at r b 2", "notes 1 at r b 2"):
            self.check_bad(4, self.changed(4, line))
        self.check_bad(6, self.changed(5, "note 4 at r c 2"))
        self.check_bad(6, self.changed(6, "note 3 at r c 2"))
        self.check_bad(6, self.changed(6, "note 2 at r c 2"))
        self.check_bad(6, self.changed(6, "note 4 shows p 2:r:p:a old"))
        self.check_bad(5, self.changed(4, "note 4 at r c 2\nnote 4 at r c 1"))
        self.check_bad(7, TEXT + "\n")
        self.check_bad(7, TEXT + "\nnote 5 at r c 2")
        self.check_bad(4, self.changed(3, "next 1"))
        self.check_bad(6, self.changed(3, "next 4"))

    def test_the_first_bad_line(self):
        self.check_bad(4, self.changed(4, "note 9 at r b 2").replace("start s", "start x"))
        self.check_bad(3, self.changed(4, "note 0 at r b 2").replace("next 5", "next 0"))
        self.check_bad(2, "home r a\nhome s z")

    def test_lines_that_are_missing(self):
        self.check_bad(1, "")
        self.check_bad(2, "home r a")
        self.check_bad(3, "home r a\nhome s c")
        self.check_bad(1, "next 1")
        self.check_bad(3, "home r a\nhome s c\n")
        self.check_bad(2, "home r a\n")

    def test_twenty_notes(self):
        lines = ["home r a", "home s c", "next 25"] + [f"note {at + 1} {note_text(MEADOW, note)}" for at, note in enumerate(NOTES[:20])]
        desk = read_desk(MEADOW, "\n".join(lines))
        self.assertEqual(len(desk.standing), 20)
        self.check_error(TooMany, 20, desk.tell, NOTES[20])
        self.check_bad(24, "\n".join(lines + [f"note 22 {note_text(MEADOW, NOTES[20])}"]))


if __name__ == "__main__":
    unittest.main()
