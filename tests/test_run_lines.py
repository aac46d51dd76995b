"""The lines of a desk and its blocks: points 73 and 74, and tallgrass/desk/language.py."""

import random
import unittest

from helpers import GrassCase, all_at, line_meadow, meadow_of
from samples import random_note
from tallgrass.asking.question import Question
from tallgrass.base.errors import GrassError
from tallgrass.desk.desk import Desk
from tallgrass.desk.desktext import desk_text, read_desk
from tallgrass.desk.language import run_lines
from tallgrass.field.meadow import OLD
from tallgrass.notes.notetext import note_text
from test_desk import NOTES, seen

MEADOW = line_meadow(3)
HOMES = {"r": "a", "s": "c"}
THREE = "tell at r b 1\ntell at r b 2\ntell at r b 3"


def new_desk(lines=""):
    desk = Desk(MEADOW, HOMES)
    if lines:
        run_lines(desk, lines)
    return desk


class Lines(GrassCase):
    def check(self, desk, *pairs):
        """Lines and their replies: carried out one by one, and all together at a copy of the desk."""
        copy = read_desk(desk.meadow, desk_text(desk))
        lines, replies = [line for line, _ in pairs], [reply for _, reply in pairs]
        self.assertEqual([run_lines(desk, line) for line in lines], [[reply] for reply in replies])
        self.assertEqual(run_lines(copy, "\n".join(lines)), replies)
        self.assertEqual(desk_text(copy), desk_text(desk))

    def check_refused(self, desk, *lines):
        """Each of the lines is refused and changes nothing, also within a block."""
        before = seen(desk)
        for line in lines:
            self.assertEqual(run_lines(desk, line), ["refused"], line)
            self.assertEqual(seen(desk), before)
            self.assertEqual(run_lines(desk, f"begin\n{line}\nend"), ["begun", "refused", "ended"])
            self.assertEqual(seen(desk), before)

    def test_tell(self):
        desk = new_desk()
        self.check(desk, ("tell start r b a", "told 1"), ("tell shows p old 2:r:p:a", "told 2"), ("tell start s", "told 3"),
                   ("tell later p q", "told 4"), ("tell off r q 3", "told 5"), ("tell off r q 3", "refused"), ("tell on s p 1", "told 6"))
        self.assertEqual(desk.standing[:3], ((1, ("start", "r", ("a", "b"))), (2, ("shows", "p", (OLD, (2, "r", "p", "a")))),
                                             (3, ("start", "s", ()))))
        self.check_refused(desk, "tell", "tell start r a b", "tell start r b b", "tell start x", "tell at r b 4", "tell at r b 01",
                           "tell at r b", "tell at r b 1 1", "tell  at r b 1", "tell at r  b 1", " tell at r b 1", "tell at r b 1 ",
                           "Tell at r b 1", "tell\tat r b 1", "told at r b 1", "tell shows p 0:r:p:a", "tell later p p",
                           "at r b 1", "tell at r b " + "1" * 5000, "tell not at r b 1")
        desk.limit = 6
        self.check_refused(desk, "tell at r b 1")

    def test_strike_and_show(self):
        desk = new_desk(THREE)
        self.check(desk, ("show 2", "at r b 2"), ("strike 2", "struck 2"), ("show 2", "refused"), ("strike 2", "refused"),
                   ("tell shows p 2:r:p:a old", "told 4"), ("show 4", "shows p old 2:r:p:a"), ("strike 4", "struck 4"),
                   ("tell at r b 2", "told 5"), ("show 1", "at r b 1"))
        for word in ("strike", "show"):
            self.check_refused(desk, word, f"{word} 2", f"{word} 0", f"{word} 6", f"{word} 01", f"{word} x", f"{word} -1", f"{word} 1 1",
                               f"{word}  1", f"{word} 1 ", f" {word} 1", f"{word} 1000", f"{word} 000", f"{word} 1" + "0" * 5000,
                               f"{word} +1", f"{word} 1.0", f"{word}1")

    def test_undo_and_redo(self):
        desk = new_desk()
        self.assertEqual(run_lines(desk, "undo\nredo\n" + THREE + "\nredo\nundo\nundo\nredo\nundo\nundo\nundo\nredo"), [
            "refused", "refused", "told 1", "told 2", "told 3", "refused", "undone", "undone", "redone", "undone", "undone", "refused",
            "redone"])
        self.assertEqual(desk_text(desk).split("\n")[2:], ["next 2", "note 1 at r b 1"])
        self.check_refused(desk, "undo 1", "redo 1", "undo ", " redo", "undone", "UNDO")
        desk.redo()
        desk.redo()
        self.check_refused(desk, "redo")

    def test_sound_and_clash(self):
        desk = new_desk()
        self.check(desk, ("sound", "yes"), ("clash", "none"), ("tell at r b 3", "told 1"), ("tell away r b 2", "told 2"), ("sound", "no"),
                   ("clash", "clash 2"), ("tell start s", "told 3"), ("clash", "clash 2"), ("strike 1", "struck 1"),
                   ("clash", "clash 3"), ("sound", "no"), ("strike 3", "struck 3"), ("clash", "none"), ("sound", "yes"))
        self.check_refused(desk, "sound ", "sound 1", "sounds", "clash 1", "clash none", " clash")

    def test_late(self):
        desk = new_desk("tell shows p 2:r:p:a")
        self.check(desk, ("late p", "late p 2"), ("late q", "late q 3"), ("tell off s q 1", "told 2"), ("late q", "late q 2"),
                   ("tell shows q", "told 3"), ("late q", "late q 0"))
        self.check_refused(desk, "late", "late r", "late x", "late p q", "late p 2", "late  p", "late p ")

    def test_where(self):
        desk = new_desk("tell shows p 2:r:p:a\ntell shows q old")
        self.check(desk, ("where 1", "r a b; s c"), ("where 2", "r a b; s c"), ("where 3", "r a; s c"))
        self.check_refused(desk, "where", "where 0", "where 4", "where 01", "where r", "where 1 1", "where 1 ", "where " + "1" * 5000)
        self.check(desk, ("strike 2", "struck 2"), ("where 1", "r a b c; s a b c"), ("where 3", "r a; s b c"))
        self.check(desk, ("tell start s", "told 3"), ("where 1", "refused"))
        self.check(Desk(meadow_of(2, 3, 2, 1, 0), {"r": "b"}), ("where 2", "r a b c"))

    def test_ask(self):
        desk = new_desk("tell shows p 2:r:p:a")
        self.check(desk, ("ask at r b 1", "surely"), ("ask not at r b 1", "never"), ("ask at r c 1", "perhaps"),
                   ("ask ( at r c 1 or off r q 1 )", "surely"), ("ask ( at r c 1 or on s p 1 )", "perhaps"), ("ask ( at r b 2 and not at r b 3 )", "surely"),
                   ("ask shows p 2:r:p:a old", "surely"), ("tell start r", "told 2"), ("ask at r b 1", "no day"))
        self.check_refused(desk, "ask", "ask at r b", "ask ( at r b 1 )", "ask not", "ask at r b 1 or at r c 1", "ask  at r b 1",
                           "ask at r b 1 ", "ask (at r b 1 or at r c 1)", "ask at x b 1", "ask " + "not " * 31 + "at r b 1",
                           "ask ( at r a 1 or ( at r a 2 or ( at r b 1 or ( at r b 2 or at r b 3 ) ) ) )")
        self.assertEqual(run_lines(desk, "undo\nask " + "not " * 30 + "at r b 1"), ["undone", "surely"])
        desk = Desk(MEADOW, HOMES)
        desk.together(NOTES[:16])
        self.assertEqual(run_lines(desk, "ask at r b 1\ntell on r p 3\nask at r b 1"), ["surely", "told 17", "refused"])

    def test_lot_and_strikes(self):
        desk = new_desk()
        self.check(desk, ("lot", "none"), ("strikes", "strikes"), ("tell at r b 3", "told 1"), ("tell away s a 1", "told 2"),
                   ("tell away r b 2", "told 3"), ("lot", "lot 1 3"), ("strikes", "strikes 1"), ("tell start s", "told 4"), ("lot", "lot 4"),
                   ("strikes", "strikes 1 4"))
        self.check_refused(desk, "lot 1", "lot ", "strikes 1", " strikes", "lots")
        run_lines(desk, THREE.replace(" r b", " r c") + "\ntell on r p 1")
        self.assertEqual(len(desk.standing), 8)
        self.check_refused(desk, "strikes")
        large = meadow_of(hours=4)
        self.check(Desk(large, all_at(large, "a")), ("strikes", "refused"), ("lot", "none"))

    def test_other_lines(self):
        desk = new_desk(THREE)
        self.check_refused(desk, "", " ", "  ", "x", "Undo", "limit 3", "together", "next", "note 1 at r b 1", "show", "begins", "dropped",
                           "\t", "sound\r", "home r a", "-", "tell;undo")
        self.assertEqual(run_lines(desk, ""), ["refused"])
        self.assertEqual(run_lines(desk, "\n"), ["refused", "refused"])
        self.assertEqual(run_lines(desk, "sound\n\nsound\n"), ["yes", "refused", "yes", "refused"])

    def test_the_desk_goes_on(self):
        desk = new_desk()
        desk.tell(NOTES[0])
        self.assertEqual(run_lines(desk, "tell at r b 3"), ["told 2"])
        desk.undo()
        self.assertEqual(run_lines(desk, "redo"), ["redone"])
        self.assertEqual(run_lines(desk, "undo\nundo"), ["undone", "undone"])
        desk.redo()
        self.assertEqual(desk.standing, ((1, NOTES[0]),))

    def test_what_is_returned_is_new(self):
        desk = new_desk(THREE)
        run_lines(desk, "sound").clear()
        self.assertEqual(run_lines(desk, "sound"), ["yes"])

    def test_random_lines(self):
        """Beside a desk that is worked by its methods."""
        rng = random.Random(71)
        for _ in range(25):
            one, two = Desk(MEADOW, HOMES), Desk(MEADOW, HOMES)
            for _ in range(30):
                line, call = self.line(two, rng)
                try:
                    expected = call()
                except GrassError:
                    expected = "refused"
                self.assertEqual(run_lines(one, line), [expected], line)
                self.assertEqual(desk_text(one), desk_text(two))
            self.assertEqual(seen(one), seen(two))

    def line(self, desk, rng):
        """A line and what does the same at the desk and returns the reply."""
        note, number = random_note(MEADOW, rng), rng.randint(0, 8)
        text, name = note_text(MEADOW, note), rng.choice("pqrx")
        return rng.choice([
            (f"tell {text}", lambda: f"told {desk.tell(note)}"),
            (f"tell {text}", lambda: f"told {desk.tell(note)}"),
            (f"strike {number}", lambda: f"struck {desk.strike(number) and number}"),
            ("undo", lambda: desk.undo() or "undone"),
            ("redo", lambda: desk.redo() or "redone"),
            ("sound", lambda: "yes" if desk.sound() else "no"),
            (f"late {name}", lambda: f"late {name} {desk.late(name)}"),
            (f"where {number}", lambda: "; ".join(" ".join([walker, *places]) for walker, places in desk.whereabouts(number).items())),
            (f"ask not {text}", lambda: desk.answer(~Question(MEADOW, note))),
            ("lot", lambda: "none" if desk.lot() is None else " ".join(["lot", *map(str, desk.lot())])),
            ("strikes", lambda: " ".join(["strikes", *map(str, desk.strikes())])),
            ("clash", lambda: "none" if desk.clash() is None else f"clash {desk.clash()}"),
            (f"show {number}", lambda: self.shown(desk, number)),
        ])

    def shown(self, desk, number):
        found = dict(desk.standing).get(number)
        return "refused" if found is None else note_text(MEADOW, found)


class Blocks(GrassCase):
    def test_one_step_of_several(self):
        desk = new_desk("tell at r b 1")
        self.assertEqual(run_lines(desk, "begin\ntell at r b 2\nstrike 1\ntell at r b 3\nend"),
                         ["begun", "told 2", "struck 1", "told 3", "ended"])
        self.assertEqual([number for number, _ in desk.standing], [2, 3])
        self.assertEqual(run_lines(desk, "undo\nshow 1\nshow 2\nredo\nshow 1\nshow 3"),
                         ["undone", "at r b 1", "refused", "redone", "refused", "at r b 3"])
        self.assertEqual(run_lines(desk, "undo\nundo\nundo"), ["undone", "undone", "refused"])

    def test_one_step_of_one(self):
        desk = new_desk("begin\ntell at r b 1\nend\nbegin\nstrike 1\nend")
        self.assertEqual(run_lines(desk, "undo\nshow 1\nundo\nundo"), ["undone", "at r b 1", "undone", "refused"])

    def test_a_note_that_is_told_and_struck(self):
        """Nothing stands behind it, but the next number has changed."""
        desk = new_desk("tell at r b 1\nundo\nbegin\ntell at r b 2\nstrike 1\nend")
        self.assertEqual(run_lines(desk, "redo\ntell at r b 3\nundo\nundo\nundo\ntell at r b 1"),
                         ["refused", "told 2", "undone", "undone", "refused", "told 1"])

    def test_what_is_refused(self):
        for word in ("end", "drop"):
            self.assertEqual(run_lines(new_desk(), f"{word}\nbegin\n{word}\n{word}")[0::3], ["refused", "refused"])
        desk = new_desk(THREE + "\nundo")
        self.assertEqual(run_lines(desk, "begin\nbegin\nundo\nredo\nbegin\nend\nundo"),
                         ["begun", "refused", "refused", "refused", "refused", "ended", "undone"])
        self.assertEqual(run_lines(desk, "begin \n begin\nbegin 1\nbegin\nend 1\ndrop 1\nend \nend"),
                         ["refused", "refused", "refused", "begun", "refused", "refused", "refused", "ended"])

    def test_a_block_without_steps(self):
        for line in ("", "sound\n", "tell at r b 1\n", "show 1\nundo\nredo\nstrike 9\n"):
            desk = new_desk(THREE + "\nundo")
            before = seen(desk)
            self.assertEqual(run_lines(desk, f"begin\n{line}end")[-1], "ended")
            self.assertEqual(seen(desk), before)
            self.assertEqual(run_lines(desk, "redo\nredo"), ["redone", "refused"])

    def test_a_block_with_steps_forgets_the_undone_ones(self):
        desk = new_desk(THREE + "\nundo\nundo\nbegin\ntell at r a 1\nend")
        self.assertEqual(run_lines(desk, "redo\nundo\nredo\nredo"), ["refused", "undone", "redone", "refused"])

    def test_drop(self):
        desk = new_desk(THREE + "\nundo\nundo")
        before = seen(desk)
        self.assertEqual(run_lines(desk, "begin\ntell at r a 1\ntell at r a 2\nstrike 1\nshow 3\ndrop\nshow 3"),
                         ["begun", "told 2", "told 3", "struck 1", "at r a 2", "dropped", "refused"])
        self.assertEqual(seen(desk), before)
        self.assertEqual(run_lines(desk, "redo\nredo\nredo"), ["redone", "redone", "refused"])
        self.assertEqual(run_lines(desk, "undo\nbegin\ndrop\nredo"), ["undone", "begun", "dropped", "redone"])
        self.assertEqual(run_lines(desk, "tell at r a 1"), ["told 4"])

    def test_a_text_that_ends_within_a_block(self):
        desk = new_desk(THREE + "\nundo")
        before = seen(desk)
        self.assertEqual(run_lines(desk, "begin\ntell at r a 1\nstrike 1\nlot"), ["begun", "told 3", "struck 1", "none"])
        self.assertEqual(seen(desk), before)
        self.assertEqual(run_lines(desk, "end\nredo\nbegin"), ["refused", "redone", "begun"])
        self.assertEqual(run_lines(desk, "drop\nundo\nundo\nundo"), ["refused", "undone", "undone", "undone"])

    def test_a_refused_line_within_a_block(self):
        desk = new_desk("tell at r b 1")
        self.assertEqual(run_lines(desk, "begin\ntell at r b 2\ntell at r b 2\nx\n\nstrike 9\ntell at r b 3\nend\nundo\nshow 2"),
                         ["begun", "told 2", "refused", "refused", "refused", "refused", "told 3", "ended", "undone", "refused"])
        self.assertEqual(run_lines(desk, "redo\nshow 3"), ["redone", "at r b 3"])

    def test_the_desk_speaks_within_a_block(self):
        desk = new_desk("tell at r b 2")
        self.assertEqual(run_lines(desk, "begin\ntell away r b 1\nsound\nclash\nlot\nstrikes\nask at r b 1\nwhere 1\ndrop\nsound\nask at r b 1"),
                         ["begun", "told 2", "no", "clash 2", "lot 1 2", "strikes 1", "no day", "refused", "dropped", "yes", "surely"])

    def test_several_blocks(self):
        desk = new_desk("begin\ntell at r b 1\ntell at r b 2\nend\nbegin\ntell at r b 3\nstrike 1\nend\nbegin\nstrike 2\ndrop")
        self.assertEqual([number for number, _ in desk.standing], [2, 3])
        self.assertEqual(run_lines(desk, "undo\nshow 1\nundo\nundo\nredo\nredo\nredo\nshow 3"),
                         ["undone", "at r b 1", "undone", "refused", "redone", "redone", "refused", "at r b 3"])

    def test_random_blocks(self):
        """A block is one step of together where it only tells, and nothing where it is dropped."""
        rng = random.Random(72)
        for _ in range(60):
            one, two = Desk(MEADOW, HOMES), Desk(MEADOW, HOMES)
            for _ in range(6):
                notes = rng.sample(NOTES, rng.randint(0, 3))
                told = [note for note in notes if note not in [row[1] for row in two.standing]]
                close = rng.choice(["end", "end", "drop"])
                lines = ["begin"] + [f"tell {note_text(MEADOW, note)}" for note in notes] + [close]
                replies = run_lines(one, "\n".join(lines))
                self.assertEqual(len([reply for reply in replies if reply.startswith("told")]), len(told))
                if close == "end":
                    two.together(told)
                if rng.random() < 0.4 and two.standing:
                    self.assertEqual(run_lines(one, "undo"), ["undone"])
                    two.undo()
                self.assertEqual(seen(one), seen(two))


if __name__ == "__main__":
    unittest.main()
