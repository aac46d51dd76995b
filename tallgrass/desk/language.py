"""The lines with which a desk is worked."""

from tallgrass.asking.question import Question
from tallgrass.base.errors import BadLine, GrassError
from tallgrass.base.words import number_of, words_of
from tallgrass.notes.notetext import note_text, read_note


def check_end(words, count):
    """Checks that there are just so many words behind the first one."""
    if len(words) != count:
        raise BadLine(1)


def only_number(words):
    """The number that is all there is behind the first word; NO_NUMBER, which every deed refuses, if it is none."""
    check_end(words, 1)
    return number_of(words[0])


def with_numbers(word, numbers):
    return " ".join([word] + [str(number) for number in numbers])


def tell_line(desk, words):
    note = read_note(desk.meadow, " ".join(words))
    return f"told {desk.tell(note)}"


def strike_line(desk, words):
    number = only_number(words)
    desk.strike(number)
    return f"struck {number}"


def undo_line(desk, words):
    check_end(words, 0)
    desk.undo()
    return "undone"


def redo_line(desk, words):
    check_end(words, 0)
    desk.redo()
    return "redone"


def sound_line(desk, words):
    check_end(words, 0)
    return "yes" if desk.sound() else "no"


def late_line(desk, words):
    check_end(words, 1)
    return f"late {words[0]} {desk.late(words[0])}"


def where_line(desk, words):
    found = desk.whereabouts(only_number(words))
    return "; ".join([" ".join([walker] + found[walker]) for walker in desk.meadow.walkers])


def ask_line(desk, words):
    return desk.answer(Question.read(desk.meadow, " ".join(words)))


def lot_line(desk, words):
    check_end(words, 0)
    numbers = desk.lot()
    return "none" if numbers is None else with_numbers("lot", numbers)


def strikes_line(desk, words):
    check_end(words, 0)
    return with_numbers("strikes", desk.strikes())


def clash_line(desk, words):
    check_end(words, 0)
    number = desk.clash()
    return "none" if number is None else f"clash {number}"


def show_line(desk, words):
    return note_text(desk.meadow, desk.noted(only_number(words)))


DEEDS = {"tell": tell_line, "strike": strike_line, "undo": undo_line, "redo": redo_line, "sound": sound_line,
         "late": late_line, "where": where_line, "ask": ask_line, "lot": lot_line, "strikes": strikes_line,
         "clash": clash_line, "show": show_line}


class Run:
    """Lines that are carried out; block is where the desk was when a block was opened, or None outside of one."""

    def __init__(self, desk):
        self.desk = desk
        self.block = None

    def reply_to(self, line):
        """Carries out a line. What is refused changes nothing."""
        try:
            return self.carried_out(words_of(line))
        except GrassError:
            return "refused"

    def carried_out(self, words):
        if words in (["begin"], ["end"], ["drop"]):
            return self.fenced(words[0])
        if len(words) == 0 or words[0] not in DEEDS:
            raise BadLine(1)
        if self.block is not None and words[0] in ("undo", "redo"):
            raise BadLine(1)
        deed = DEEDS[words[0]]
        return deed(self.desk, words[1:])

    def fenced(self, word):
        """Opens or closes a block."""
        if (word == "begin") != (self.block is None):
            raise BadLine(1)
        if word == "begin":
            self.block = self.desk.position()
            return "begun"
        if word == "drop":
            self.drop()
            return "dropped"
        self.desk.step_since(self.block)
        self.block = None
        return "ended"

    def drop(self):
        """Closes a block, if one is open, and takes back what was done in it."""
        if self.block is not None:
            self.desk.go_to(self.block)
        self.block = None


def run_lines(desk, text):
    """Carries out the lines of a text and returns the replies."""
    run = Run(desk)
    replies = []
    for line in text.split("\n"):
        replies.append(run.reply_to(line))
    run.drop()
    return replies
