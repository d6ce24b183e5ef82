"""A book, which keeps a performance line by line (points 39 and 40)."""

from roletalks.errors import InvalidText, NothingToRedo, NothingToUndo
from roletalks.parts import KINDS
from roletalks.stage import check_stage, first_position, is_over, steps_at
from roletalks.texts import ACTOR_NAMES, WORD_NAMES, check_end_of_line, check_text, read_name, words_of
from roletalks.troubles import trouble_at

QUESTIONS = ("doings", "boxes", "states", "over", "trouble")


def read_doing(words, actors):
    """The doing of the words of a line; an actor may be told to do it with itself, which can never be done."""
    names = ACTOR_NAMES[:actors]
    actor = read_name(names, words, 0, 1)
    kind = KINDS[read_name(KINDS, words, 1, 1)]
    other = read_name(names, words, 2, 1)
    word = read_name(WORD_NAMES, words, 3, 1)
    check_end_of_line(words, 4, 1)
    return actor, kind, other, word


def doing_line(doing):
    """The line of a doing."""
    actor, kind, other, word = doing
    return f"{ACTOR_NAMES[actor]} {kind} {ACTOR_NAMES[other]} {WORD_NAMES[word]}"


def box_word(box):
    """The word for a box with its letters."""
    speaker, hearer, words = box
    letters = "".join([WORD_NAMES[word] for word in words])
    return f"{ACTOR_NAMES[speaker]}>{ACTOR_NAMES[hearer]}:{letters}"


class Book:
    """A performance of a cast with boxes of a size, of which doings can be taken back and done again.

    What is done, and what was taken back, are lists of pairs of a line and the position behind its doing.
    """

    def __init__(self, cast, size):
        check_stage(cast, size)
        self.cast = cast
        self.size = size
        self.done = []
        self.undone = []

    def position(self):
        """The position behind all that is done."""
        if not self.done:
            return first_position(self.cast)
        _, position = self.done[-1]
        return position

    @property
    def states(self):
        """The tuple of the states of all parts."""
        return self.position()[0]

    @property
    def letters(self):
        """The ascending tuple of the boxes with letters."""
        return self.position()[1]

    @property
    def steps(self):
        """The tuple of the lines of all doings that are done."""
        return tuple([line for line, _ in self.done])

    def run(self, line):
        """Answer the question in a line, or do the doing in it."""
        check_text(line)
        words = words_of(line)
        if words and words[0] in QUESTIONS:
            check_end_of_line(words, 1, 1)
            return self.answer(words[0])
        doing = read_doing(words, len(self.cast))
        steps = dict(steps_at(self.cast, self.size, self.position()))
        if doing not in steps:
            raise InvalidText(1, 4)
        self.done.append((line, steps[doing]))
        self.undone = []
        return None

    def answer(self, question):
        """The answer to a question."""
        position = self.position()
        steps = steps_at(self.cast, self.size, position)
        if question == "doings":
            return ", ".join([doing_line(doing) for doing, _ in steps])
        if question == "boxes":
            return " ".join([box_word(box) for box in self.letters])
        if question == "states":
            return " ".join([str(state) for state in self.states])
        if question == "over":
            return "yes" if is_over(self.cast, position) else "no"
        return trouble_at(self.cast, position, steps) or "none"

    def undo(self):
        """Take the last doing back."""
        if not self.done:
            raise NothingToUndo("nothing is done")
        self.undone.append(self.done.pop())

    def redo(self):
        """Do again the doing that was taken back last."""
        if not self.undone:
            raise NothingToRedo("nothing was taken back")
        self.done.append(self.undone.pop())


def replayed(cast, size, text):
    """A book in which the lines of a text were run."""
    book = Book(cast, size)
    check_text(text)
    if text:
        for line in text.split("\n"):
            book.run(line)
    return book
