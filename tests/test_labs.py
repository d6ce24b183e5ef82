"""Points 39 and 40: a book, and books replayed; with their wrong arguments."""

import random
import unittest

from roletalks import labs as module
from roletalks.cuts import cast_of
from roletalks.errors import BadCast, BadNumber, InvalidText, NothingToRedo, NothingToUndo, NotText, TalkError
from roletalks.labs import Book, replayed
from roletalks.stage import can_be_over, doings, play
from roletalks.troubles import first_trouble
from tests import test_parts_wrong, test_stage, test_stage_wrong
from tests.support import WRONG_SIZES, TalkCase, some_casts, some_scripts
from tests.test_texts import NO_TEXTS

DONE = ((True, ()),)
ONE_TALK = cast_of((2, ((0, ((1, 0, 1),)), None)))
ASKED = cast_of((2, ((0, ((1, 0, 1), (1, 1, 2))), (1, ((0, 2, 0),)), None)))
QUESTIONS = ("doings", "boxes", "states", "over", "trouble")


def told(book):
    """All that a book tells."""
    return [book.states, book.letters, book.steps] + [book.run(question) for question in QUESTIONS]


def whole(book):
    """All that a book tells, with all that can be taken back and done again; the book is as before then."""
    back = 0
    ahead = 0
    found = [told(book)]
    while book.steps:
        book.undo()
        back += 1
        found.append(told(book))
    for _ in range(back):
        book.redo()
    try:
        while True:
            book.redo()
            ahead += 1
            found.append(told(book))
    except NothingToRedo:
        for _ in range(ahead):
            book.undo()
    return found


class InterfaceTest(TalkCase):
    def test_names_and_arguments(self):
        self.defines(module, {"Book": ["cast", "size"], "replayed": ["cast", "size", "text"]})
        for name in ("run", "undo", "redo"):
            self.assertIn(name, vars(Book))
        for name in ("states", "letters", "steps"):
            self.assertIsInstance(vars(Book)[name], property)


class BookCase(TalkCase):
    def fails(self, book, error, fields, call, *arguments):
        """The call raises the error, and the book is as before."""
        before = repr(whole(book))
        self.raises(error, fields, call, *arguments)
        self.same(repr(whole(book)), before)

    def invalid(self, book, word, line):
        self.fails(book, InvalidText, {"line": 1, "word": word}, book.run, line)


class RunTest(BookCase):
    def test_a_new_book(self):
        book = Book(ONE_TALK, 1)
        self.same(told(book), [(0, 0), (), (), "A say B a", "", "0 0", "no", "none"])
        self.same(told(Book((DONE,) * 4, 3)), [(0, 0, 0, 0), (), (), "", "", "0 0 0 0", "yes", "none"])

    def test_doings(self):
        book = Book(ONE_TALK, 1)
        self.same(book.run("A say B a"), None)
        self.same(told(book), [(1, 0), ((0, 1, (0,)),), ("A say B a",), "B hear A a", "A>B:a", "1 0", "no", "none"])
        self.same(book.run("B hear A a"), None)
        self.same(told(book), [(1, 1), (), ("A say B a", "B hear A a"), "", "", "1 1", "yes", "none"])

    def test_lines_are_kept_as_they_were_given(self):
        book = Book(ONE_TALK, 1)
        book.run("  A  say B   a ")
        book.run("B hear A a  ")
        self.same(book.steps, ("  A  say B   a ", "B hear A a  "))
        self.same(book.states, (1, 1))
        self.same(book.run("  over "), "yes")

    def test_boxes(self):
        cast = (((True, (("say", 1, 0, 0), ("say", 1, 5, 0), ("say", 3, 2, 0))),), DONE, ((True, (("say", 0, 1, 0),)),), DONE)
        book = Book(cast, 3)
        for line in ("C say A b", "A say D c", "A say B f", "A say B a", "A say B a"):
            book.run(line)
        self.same(book.run("boxes"), "A>B:faa A>D:c C>A:b")
        self.same(book.letters, ((0, 1, (5, 0, 0)), (0, 3, (2,)), (2, 0, (1,))))
        self.same(book.run("doings"), "A say D c, C say A b")

    def test_states_of_two_digits(self):
        line = tuple([(False, (("say", 1, 0, at + 1),)) for at in range(12)]) + DONE
        book = Book((line, ((True, (("hear", 0, 0, 0),)),)), 1)
        for _ in range(12):
            book.run("A say B a")
            book.run("B hear A a")
        self.same(book.run("states"), "12 0")

    def test_trouble(self):
        book = Book((ONE_TALK[0], DONE), 1)
        self.same(book.run("trouble"), "none")
        book.run("A say B a")
        self.same([book.run("trouble"), book.run("over")], ["unread", "no"])
        self.same(Book((DONE, ((False, ()),)), 1).run("trouble"), "stuck")
        self.same(Book((DONE, ((False, ()),)), 1).run("over"), "no")

    def test_over_while_something_can_be_done(self):
        book = Book((((True, (("say", 1, 0, 0),)),), DONE), 1)
        self.same([book.run("over"), book.run("doings"), book.run("trouble")], ["yes", "A say B a", "none"])

    def test_rows_of_more_than_forty_doings(self):
        book = Book(test_stage.STREAM, 1)
        for _ in range(30):
            book.run("A say B f")
            book.run("B hear A f")
        self.same(len(book.steps), 60)
        self.same(book.run("doings"), "A say B a, A say B f")

    def test_two_books_are_apart(self):
        one, other = Book(ONE_TALK, 1), Book(ONE_TALK, 1)
        one.run("A say B a")
        self.same(other.steps, ())
        self.same(other.states, (0, 0))

    def test_all_against_the_stage(self):
        chance = random.Random(111)
        for cast in test_stage.BY_HAND + some_casts(40, 112) + [cast_of(script) for script in some_scripts(20, 113)]:
            for size in (1, 2, 3):
                self.check_some_rows(chance, cast, size)

    def check_some_rows(self, chance, cast, size):
        book = Book(cast, size)
        row = ()
        for _ in range(12):
            states, letters = play(cast, size, row)
            can = doings(cast, size, row)
            lines = [f"{'ABCD'[actor]} {kind} {'ABCD'[other]} {'abcdef'[word]}" for actor, kind, other, word in can]
            boxes = [f"{'ABCD'[one]}>{'ABCD'[other]}:" + "".join(["abcdef"[word] for word in words])
                     for one, other, words in letters]
            over = not letters and all([part[state][0] for part, state in zip(cast, states)])
            trouble = "none" if can or over else "unread" if letters else "stuck"
            self.same(told(book)[:2] + told(book)[3:], [
                states, letters, ", ".join(lines), " ".join(boxes), " ".join([str(state) for state in states]),
                "yes" if over else "no", trouble])
            if not can:
                return
            at = chance.randrange(len(can))
            self.same(book.run(lines[at]), None)
            row += (can[at],)


class InvalidTest(BookCase):
    def book(self):
        book = Book(ASKED, 1)
        for line in ("A say B a", "B hear A a", "B say A c"):
            book.run(line)
        book.undo()
        return book

    def test_no_texts(self):
        for value in NO_TEXTS:
            book = self.book()
            self.fails(book, NotText, {}, book.run, value)

    def test_the_first_word(self):
        for line in ["", " ", "   ", "a", "C say B a", "a say B a", "Over", "DOINGS", "doing", "x", "0", "AB say B a", "say",
                     "over\n", "\nover", "A\tsay B a", "boxes,", "none"]:
            self.invalid(self.book(), 1, line)

    def test_a_question_is_a_word_alone(self):
        for question in QUESTIONS:
            self.invalid(self.book(), 2, question + " x")
            self.invalid(self.book(), 2, question + " " + question)
            self.invalid(self.book(), 2, question + "  B a")

    def test_the_other_words(self):
        for line in ["A", "A ", "A tell B a", "A Say B a", "A B say a", "B x y z v"]:
            self.invalid(self.book(), 2, line)
        for line in ["A say", "A say b a", "A say C a", "A hear D a", "B say 0 a", "A say AB a", "A say say say say"]:
            self.invalid(self.book(), 3, line)
        for line in ["A say B", "B say A g", "B say A A", "B say A 2", "B say A cc", "B say A c,", "B say A g x", "B say A c\n"]:
            self.invalid(self.book(), 4, line)

    def test_a_fifth_word(self):
        for line in ["B say A c x", "B say A c c", "A say B a x", "A say A a x", "B hear A f  x y"]:
            self.invalid(self.book(), 5, line)

    def test_doings_that_cannot_be_done_now(self):
        for line in ["A say B a", "B hear A a", "B say A b", "A hear B c", "B hear A c"]:
            self.invalid(self.book(), 4, line)
        for line in ["A say A a", "B hear B c", "B say B c", "A hear A f"]:
            self.invalid(self.book(), 4, line)
        full = Book(test_stage.STREAM, 1)
        full.run("A say B a")
        self.invalid(full, 4, "A say B f")
        self.invalid(full, 4, "B hear A f")

    def test_actors_of_the_cast(self):
        for actors, none in ((2, "C"), (3, "D"), (4, "E")):
            book = Book((DONE,) * actors, 1)
            last = "ABCD"[actors - 1]
            self.invalid(book, 1, f"{none} say A a")
            self.invalid(book, 3, f"A say {none} a")
            self.invalid(book, 4, f"{last} say A a")
            self.invalid(book, 4, f"A hear {last} f")


class UndoTest(BookCase):
    def test_undo_and_redo(self):
        book = Book(ONE_TALK, 1)
        states = [told(book)]
        for line in ("A say  B a", " B hear A a"):
            book.run(line)
            states.append(told(book))
        for at in (1, 0):
            self.same(book.undo(), None)
            self.same(told(book), states[at])
        for at in (1, 2):
            self.same(book.redo(), None)
            self.same(told(book), states[at])
        self.same(book.steps, ("A say  B a", " B hear A a"))

    def test_nothing_to_undo(self):
        book = Book(ONE_TALK, 1)
        self.fails(book, NothingToUndo, {}, book.undo)
        book.run("A say B a")
        book.undo()
        self.fails(book, NothingToUndo, {}, book.undo)
        book.redo()
        self.same(book.steps, ("A say B a",))

    def test_nothing_to_redo(self):
        book = Book(ONE_TALK, 1)
        self.fails(book, NothingToRedo, {}, book.redo)
        book.run("A say B a")
        self.fails(book, NothingToRedo, {}, book.redo)
        book.undo()
        book.redo()
        self.fails(book, NothingToRedo, {}, book.redo)

    def test_no_redo_behind_a_new_doing(self):
        for again in ("A say B a", "A say B b"):
            book = Book(ASKED, 1)
            book.run("A say B a")
            book.run("B hear A a")
            book.undo()
            book.undo()
            book.run(again)
            self.fails(book, NothingToRedo, {}, book.redo)
            book.undo()
            book.redo()
            self.same(book.steps, (again,))

    def test_questions_and_errors_leave_what_was_taken_back(self):
        book = Book(ASKED, 1)
        book.run("A say B a")
        book.run("B hear A a")
        book.undo()
        for question in QUESTIONS:
            book.run(question)
        for line in ("A say B b", "x", "", "A say A a"):
            self.raises(InvalidText, {"line": 1, "word": 4 if "say" in line else 1}, book.run, line)
        self.raises(NotText, {}, book.run, None)
        book.redo()
        self.same(book.steps, ("A say B a", "B hear A a"))

    def test_all_against_lists(self):
        chance = random.Random(114)
        for cast in some_casts(60, 115) + [ASKED, ONE_TALK, test_stage.STREAM]:
            book = Book(cast, 2)
            done, undone = [], []
            for _ in range(40):
                can = [line for line in book.run("doings").split(", ") if line]
                kind = chance.choice(["run", "run", "undo", "redo"])
                if kind == "run" and can:
                    done, undone = done + [chance.choice(can)], []
                    book.run(done[-1])
                elif kind == "undo" and done:
                    undone.append(done.pop())
                    book.undo()
                elif kind == "redo" and undone:
                    done.append(undone.pop())
                    book.redo()
                elif kind != "run":
                    self.raises(NothingToUndo if kind == "undo" else NothingToRedo, {}, getattr(book, kind))
                self.same(book.steps, tuple(done))
                self.same(told(book), told(replayed(cast, 2, "\n".join(done))))


class ReplayTest(BookCase):
    def test_replayed(self):
        self.same(told(replayed(ONE_TALK, 1, "")), told(Book(ONE_TALK, 1)))
        self.same(replayed(ONE_TALK, 1, "A say B a").steps, ("A say B a",))
        book = replayed(ONE_TALK, 1, " A say B a\nover\nB hear A a ")
        self.same(book.steps, (" A say B a", "B hear A a "))
        self.same(book.states, (1, 1))
        book.undo()
        self.same(book.states, (1, 0))
        self.raises(NothingToRedo, {}, replayed(ONE_TALK, 1, "A say B a").redo)

    def test_the_first_line_that_raises_an_error(self):
        for text, word in [("A say B a\nA say B a", 4), ("x", 1), ("A say B a\n", 1), ("\nA say B a", 1), ("\n", 1), (" ", 1),
                           ("A say B a\nB hear A a x\nx", 5), ("over yes\nx", 2), ("states\nboxes\nA say C a", 3),
                           ("A say B a\r\nB hear A a", 4)]:
            self.raises(InvalidText, {"line": 1, "word": word}, replayed, ONE_TALK, 1, text)

    def test_no_texts(self):
        for value in NO_TEXTS:
            self.raises(NotText, {}, replayed, ONE_TALK, 1, value)


class WrongTest(TalkCase):
    def calls(self):
        yield Book, (), ()
        yield replayed, (None,), ("x",)

    def test_wrong_casts(self):
        for function, wrong, _ in self.calls():
            for cast in test_stage_wrong.WRONG_CASTS:
                self.raises(BadCast, {"index": None}, function, cast, None, *wrong)
            for part in test_parts_wrong.WRONG_FORMS:
                self.raises(BadCast, {"index": 2}, function, (DONE, DONE, part, None), 1, *wrong)
            for state in test_parts_wrong.WRONG_STATES:
                self.raises(BadCast, {"index": 1}, function, (DONE, (state, (True, ())), DONE), 1, *wrong)
            for step in test_stage_wrong.WRONG_STEPS:
                self.raises(BadCast, {"index": 1}, function, (DONE, ((False, (step,)), (True, ())), DONE), 4, *wrong)

    def test_wrong_sizes(self):
        for function, wrong, invalid in self.calls():
            for size in WRONG_SIZES:
                self.raises(BadNumber, {}, function, ONE_TALK, size, *wrong)
                self.raises(BadNumber, {}, function, ONE_TALK, size, *invalid)
            for size in (1, 2, 3):
                function(ONE_TALK, size, *[""] * len(wrong))


class KnownTest(TalkCase):
    def test_a_row_to_trouble_leads_a_book_to_trouble(self):
        tried = 0
        for cast in some_casts(80, 116):
            found = first_trouble(cast, 1)
            if found is not None:
                kind, row = found
                text = "\n".join([f"{'ABCD'[actor]} {kind_too} {'ABCD'[other]} {'abcdef'[word]}"
                                  for actor, kind_too, other, word in row])
                self.same(replayed(cast, 1, text).run("trouble"), kind)
                tried += 1
            elif can_be_over(cast, 1):
                self.same(Book(cast, 1).run("trouble"), "none")
        self.assertGreater(tried, 20)

    def test_every_error_is_a_talk_error(self):
        book = Book(ONE_TALK, 1)
        for call in (book.undo, book.redo, lambda: book.run("x"), lambda: book.run(None), lambda: Book(None, 1)):
            with self.assertRaises(TalkError):
                call()


if __name__ == "__main__":
    unittest.main()
