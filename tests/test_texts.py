"""Points 36 to 38: scripts, parts and rows of talks as texts; with their wrong arguments."""

import unittest

from roletalks import texts as module
from roletalks.errors import BadPart, BadScript, BadTalks, InvalidText, NotText
from roletalks.texts import read_part, read_script, read_talks, write_part, write_script, write_talks
from tests import test_parts_wrong, test_scripts_wrong
from tests.support import ODD, TalkCase, some_parts, some_scripts, some_short_scripts

ASKED = (2, ((0, ((1, 0, 1), (1, 1, 2))), (1, ((0, 2, 0),)), None))
FOUR = (4, ((3, ((0, 5, 7), (1, 0, 0), (2, 3, 1), (2, 4, 1))),) + (None,) * 7)
SAYS = ((False, (("say", 1, 0, 1),)), (True, ()))
ANY = ((True, (("hear", 0, 1, 0), ("hear", 2, 0, 1), ("say", 1, 0, 1), ("say", 3, 5, 0))), (False, ()))

INTERFACE = {
    "write_script": ["script"], "write_part": ["part"], "write_talks": ["script", "talks"], "read_script": ["text"],
    "read_part": ["text"], "read_talks": ["script", "text"],
}

# Values that are no string.
NO_TEXTS = [value for value in ODD if not isinstance(value, str)] + [b"", b"2\nend", ("2", "end"), ["2", "end"]]


class InterfaceTest(TalkCase):
    def test_names_and_arguments(self):
        self.defines(module, INTERFACE)


class TextCase(TalkCase):
    def invalid(self, line, word, function, *arguments):
        self.raises(InvalidText, {"line": line, "word": word}, function, *arguments)


class ScriptTest(TextCase):
    def test_write(self):
        self.same(write_script(ASKED), "2\nA B a 1 B b 2\nB A c 0\nend")
        self.same(write_script(FOUR), "4\nD A f 7 B a 0 C d 1 C e 1\n" + "\n".join(["end"] * 7))
        self.same(write_script((2, (None,))), "2\nend")
        self.same(write_script((3, ((2, ((1, 4, 0),)),))), "3\nC B e 0")

    def test_read(self):
        self.same(read_script("2\nA B a 1 B b 2\nB A c 0\nend"), ASKED)
        self.same(read_script("4\nD A f 7 B a 0 C d 1 C e 1\n" + "\n".join(["end"] * 7)), FOUR)
        self.same(read_script("3\nend"), (3, (None,)))

    def test_more_spaces(self):
        self.same(read_script(" 2  \n   A  B a   1 B b 2\nB A c 0  \n  end "), ASKED)

    def test_other_white_space_parts_no_words(self):
        self.invalid(1, 1, read_script, "2\t\nend")
        self.invalid(1, 1, read_script, "2\r\nend")
        self.invalid(2, 1, read_script, "2\nend\r")
        self.invalid(2, 1, read_script, "2\nA\tB a 0")
        self.invalid(2, 2, read_script, "2\nA B\ta 0")

    def test_the_first_line(self):
        for text in ["", " ", "\nend", "  \nend", "1\nend", "5\nend", "0\nend", "-2\nend", "02\nend", "+2\nend", "2.\nend",
                     "two\nend", "A\nend", "end", "22\nend", "2_\nend", "\n", "2,\nend"]:
            self.invalid(1, 1, read_script, text)
        for text in ["2 2\nend", "2 end", "3 A\nend", "2 x y\nend"]:
            self.invalid(1, 2, read_script, text)

    def test_the_first_line_is_told_ahead_of_all(self):
        self.invalid(1, 1, read_script, "5\nend\nx")
        self.invalid(1, 1, read_script, "x" + "\nend" * 9)
        self.invalid(1, 2, read_script, "2 x" + "\nend" * 9)
        self.invalid(1, 2, read_script, "2 x")

    def test_no_scenes(self):
        for text in ("2", " 3 ", "4"):
            self.invalid(2, 1, read_script, text)

    def test_eight_scenes_and_nine(self):
        self.same(read_script("2" + "\nend" * 8), (2, (None,) * 8))
        for text in ["2" + "\nend" * 9, "2" + "\n" * 9, "2\nx" + "\nend" * 8, "2" + "\nend" * 30, "4\nA B a 8" + "\nend" * 8]:
            self.invalid(10, 1, read_script, text)

    def test_empty_lines(self):
        self.invalid(2, 1, read_script, "2\n")
        self.invalid(3, 1, read_script, "2\nend\n")
        self.invalid(2, 1, read_script, "2\n\nend")
        self.invalid(3, 1, read_script, "2\nend\n  \nend")

    def test_the_first_word_of_a_scene(self):
        for word in ["C", "a", "1", "END", "End", "ends", "AB", "A,", "None", "-"]:
            self.invalid(2, 1, read_script, f"2\n{word} B a 0")
            self.invalid(3, 1, read_script, f"2\nend\n{word}")
        self.invalid(2, 1, read_script, "3\nD B a 0")
        self.invalid(2, 1, read_script, "4\nE B a 0")
        self.same(read_script("4\nD B a 0"), (4, ((3, ((1, 0, 0),)),)))

    def test_a_word_behind_an_end(self):
        self.invalid(2, 2, read_script, "2\nend end")
        self.invalid(3, 2, read_script, "2\nend\nend B a 0")

    def test_hearers(self):
        for word in ["A", "C", "b", "0", "BA", "", "end"]:
            self.invalid(2, 2, read_script, f"2\nA {word} 7 9" if word else "2\nA")
        self.invalid(2, 5, read_script, "3\nA B a 0 A b 0")
        self.invalid(2, 5, read_script, "3\nA B a 0 D b 0")
        self.invalid(2, 2, read_script, "4\nD D a 0")

    def test_words(self):
        for word in ["g", "A", "0", "aa", "ab", "-"]:
            self.invalid(2, 3, read_script, f"2\nA B {word} 9")
            self.invalid(2, 6, read_script, f"2\nA B a 0 B {word} 9")

    def test_numbers(self):
        for word in ["2", "-1", "00", "01", "+1", "1.0", "a", "x", "1_", "10"]:
            self.invalid(2, 4, read_script, f"2\nA B a {word} C\nend")
            self.invalid(3, 7, read_script, f"2\nend\nA B a 1 B b {word} x")
        self.same(read_script("2\nA B a 1\nend"), (2, ((0, ((1, 0, 1),)), None)))

    def test_lines_that_end_too_early(self):
        line = "A B a 0 B b 0"
        words = line.split(" ")
        for many in range(1, len(words) + 1):
            text = "2\n" + " ".join(words[:many])
            if many in (4, 7):
                read_script(text)
            else:
                self.invalid(2, many + 1, read_script, text)
                self.invalid(2, many + 1, read_script, text + "  ")

    def test_branches_that_are_not_greater(self):
        self.invalid(2, 6, read_script, "2\nA B a 0 B a 0")
        self.invalid(2, 6, read_script, "2\nA B b 0 B a 0")
        self.invalid(2, 6, read_script, "3\nA C a 0 B b 0")
        self.invalid(2, 6, read_script, "3\nA C a 0 B b 9")
        self.invalid(2, 9, read_script, "3\nA B a 0 C a 0 C a 0")
        self.invalid(2, 9, read_script, "3\nA B a 0 C a 0 B b 0")
        self.invalid(2, 6, read_script, "3\nA C a 0 B")
        self.invalid(2, 6, read_script, "3\nA C a 0 B x")
        self.invalid(2, 5, read_script, "3\nA C a 0 A a 0")
        self.same(read_script("3\nA B f 0 C a 0"), (3, ((0, ((1, 5, 0), (2, 0, 0))),)))

    def test_lines_in_their_order(self):
        self.invalid(2, 4, read_script, "2\nA B a 3\nx\nend")
        self.invalid(3, 1, read_script, "2\nend\nx\nx")
        self.invalid(9, 1, read_script, "2" + "\nend" * 7 + "\nx")

    def test_written_and_read_again(self):
        for script in some_scripts(150, 101) + some_short_scripts(50, 102) + test_scripts_wrong.ALLOWED:
            text = write_script(script)
            self.same(read_script(text), script)
            spaced = text.replace(" ", "   ").replace("\n", "  \n ")
            self.same(read_script(spaced), script)
            self.same(write_script(read_script(spaced)), text)

    def test_no_texts(self):
        for value in NO_TEXTS:
            self.raises(NotText, {}, read_script, value)
            self.raises(NotText, {}, read_part, value)
            self.raises(NotText, {}, read_talks, ASKED, value)


class PartTest(TextCase):
    def test_write(self):
        self.same(write_part(SAYS), "go say B a 1\nrest")
        self.same(write_part(ANY), "rest hear A b 0 hear C a 1 say B a 1 say D f 0\ngo")
        self.same(write_part(((True, ()),) * 255), "\n".join(["rest"] * 255))
        self.same(write_part(((False, (("say", 0, 0, 254),)),) + ((True, ()),) * 254), "go say A a 254" + "\nrest" * 254)

    def test_read(self):
        self.same(read_part("go say B a 1\nrest"), SAYS)
        self.same(read_part("rest hear A b 0 hear C a 1 say B a 1 say D f 0\ngo"), ANY)
        self.same(read_part("go"), ((False, ()),))
        self.same(read_part("go say A a 254" + "\nrest" * 254), ((False, (("say", 0, 0, 254),)),) + ((True, ()),) * 254)

    def test_more_spaces(self):
        self.same(read_part("  go say  B a 1  \n   rest "), SAYS)

    def test_255_lines_and_256(self):
        self.same(read_part("\n".join(["rest"] * 255)), ((True, ()),) * 255)
        for text in ["\n".join(["rest"] * 256), "\n" * 255, "x" + "\nrest" * 255, "\n".join(["rest"] * 999)]:
            self.invalid(256, 1, read_part, text)
        self.invalid(255, 1, read_part, "\n".join(["rest"] * 254 + ["x"]))
        self.invalid(1, 1, read_part, "\n" * 254)

    def test_empty_lines(self):
        for text in ("", "  ", "\n", "\nrest"):
            self.invalid(1, 1, read_part, text)
        self.invalid(2, 1, read_part, "rest\n")
        self.invalid(2, 1, read_part, "rest\n \nrest")

    def test_the_first_word(self):
        for word in ["Rest", "stay", "say", "0", "True", "gone", "r"]:
            self.invalid(1, 1, read_part, f"{word} say B a 0")
            self.invalid(2, 1, read_part, f"go\n{word}")

    def test_words(self):
        for word in ["tell", "Say", "A", "s", "rest"]:
            self.invalid(1, 2, read_part, f"go {word} x x x")
            self.invalid(1, 6, read_part, f"go say B a 0 {word} x x x")
        for word in ["E", "a", "0", "AB", "-"]:
            self.invalid(1, 3, read_part, f"go hear {word} x x")
            self.invalid(1, 7, read_part, f"go hear B a 0 say {word} x x")
        for word in ["g", "A", "0", "ab", "-"]:
            self.invalid(1, 4, read_part, f"go hear D {word} x")
            self.invalid(1, 8, read_part, f"go hear B a 0 say B {word} x")
        for word in ["2", "-1", "00", "01", "+0", "a", "0.", "254"]:
            self.invalid(1, 5, read_part, f"go hear D f {word} x\nrest")
            self.invalid(2, 9, read_part, f"rest\ngo hear D f 0 say B a {word} x")

    def test_lines_that_end_too_early(self):
        words = "go hear A b 0 say A a 0".split(" ")
        for many in range(1, len(words) + 1):
            text = " ".join(words[:many])
            if many in (1, 5, 9):
                read_part(text)
            else:
                self.invalid(1, many + 1, read_part, text)

    def test_events_that_are_not_greater(self):
        self.invalid(1, 8, read_part, "go hear A b 0 hear A b 0")
        self.invalid(1, 8, read_part, "go hear A b 0 hear A a 0")
        self.invalid(1, 8, read_part, "go hear B a 0 hear A b 0")
        self.invalid(1, 8, read_part, "go say A a 0 hear B b 0")
        self.invalid(1, 8, read_part, "go say A a 0 hear B b x")
        self.invalid(1, 8, read_part, "go say A a 0 hear B")
        self.invalid(1, 7, read_part, "go say A a 0 hear E")
        self.invalid(2, 12, read_part, "rest\ngo hear A a 0 say A a 0 say A a 0")
        self.same(read_part("go hear D f 0 say A a 0"), ((False, (("hear", 3, 5, 0), ("say", 0, 0, 0))),))

    def test_written_and_read_again(self):
        for part in some_parts(150, 103) + test_parts_wrong.ALLOWED:
            text = write_part(part)
            self.same(read_part(text), part)
            spaced = text.replace(" ", "  ").replace("\n", " \n  ")
            self.same(read_part(spaced), part)
            self.same(write_part(read_part(spaced)), text)


class TalksTest(TextCase):
    def test_write(self):
        self.same(write_talks(ASKED, ((0, 1, 0), (1, 0, 2))), "AaB BcA")
        self.same(write_talks(ASKED, ()), "")
        self.same(write_talks(FOUR, ((3, 2, 5),)), "DfC")
        self.same(write_talks(ASKED, ((0, 1, 4),) * 12), " ".join(["AeB"] * 12))

    def test_read(self):
        self.same(read_talks(ASKED, "AaB BcA"), ((0, 1, 0), (1, 0, 2)))
        self.same(read_talks(ASKED, "   AaB   BcA "), ((0, 1, 0), (1, 0, 2)))
        self.same(read_talks(FOUR, "DfC"), ((3, 2, 5),))

    def test_none_twelve_and_thirteen(self):
        for text in ("", " ", "    "):
            self.same(read_talks(ASKED, text), ())
        self.same(read_talks(ASKED, "AaB " * 12), ((0, 1, 0),) * 12)
        for text in ["AaB " * 13, "AaB " * 12 + "x", "AaB " * 30]:
            self.invalid(1, 13, read_talks, ASKED, text)
        self.invalid(1, 12, read_talks, ASKED, "AaB " * 11 + "x AaB")

    def test_wrong_words(self):
        for word in ["x", "aAB", "ABa", "AaA", "BbB", "AaC", "CaA", "AgB", "Aa", "AaBa", "aB", "AAB", "A", "AaB,", "A0B", "0a1"]:
            self.invalid(1, 1, read_talks, ASKED, word)
            self.invalid(1, 3, read_talks, ASKED, f"AaB BcA {word} x")
        for actors, last in ((2, "B"), (3, "C"), (4, "D")):
            script = (actors, (None,))
            self.same(read_talks(script, f"Aa{last}"), ((0, actors - 1, 0),))
            self.invalid(1, 1, read_talks, script, "AaE")
            self.invalid(1, 1, read_talks, script, {"B": "AaC", "C": "DaB", "D": "AaE"}[last])

    def test_a_row_of_talks_is_one_line(self):
        self.invalid(2, 1, read_talks, ASKED, "AaB\nBcA")
        self.invalid(2, 1, read_talks, ASKED, "AaB\n")
        self.invalid(1, 2, read_talks, ASKED, "AaB x\nBcA")

    def test_written_and_read_again(self):
        for actors in (2, 3, 4):
            script = (actors, (None,))
            every = [(speaker, hearer, word) for speaker in range(actors) for hearer in range(actors)
                     if speaker != hearer for word in range(6)]
            for at in range(len(every)):
                row = tuple(every[at:at + at % 13])
                self.same(read_talks(script, write_talks(script, row)), row)

    def test_wrong_talks(self):
        for talks in test_scripts_wrong.WRONG_ROWS:
            self.raises(BadTalks, {"index": None}, write_talks, ASKED, talks)
        for talk in test_scripts_wrong.WRONG_TALKS:
            self.raises(BadTalks, {"index": 0}, write_talks, ASKED, (talk,))
            self.raises(BadTalks, {"index": 1}, write_talks, ASKED, ((0, 1, 0), talk, 7))
        self.raises(BadTalks, {"index": 0}, write_talks, (3, (None,)), ((3, 0, 0),))

    def test_the_order(self):
        self.raises(BadScript, {"index": None}, write_talks, None, None)
        self.raises(BadScript, {"index": 1}, read_talks, (2, (None, 7)), None)
        self.raises(BadScript, {"index": 1}, read_talks, (2, (None, 7)), "x")


class WrongScriptTest(test_scripts_wrong.WrongScripts, TalkCase):
    def calls(self):
        yield write_script, ()
        yield write_talks, ((),)
        yield read_talks, ("",)


class WrongPartTest(TalkCase):
    def test_wrong_parts(self):
        for part in test_parts_wrong.WRONG_FORMS:
            self.raises(BadPart, {"index": None}, write_part, part)
        for state in test_parts_wrong.WRONG_STATES:
            self.raises(BadPart, {"index": 0}, write_part, (state, (True, ())))
            self.raises(BadPart, {"index": 1}, write_part, ((True, ()), state))
        for step in test_parts_wrong.WRONG_STEPS:
            self.raises(BadPart, {"index": 0}, write_part, ((False, (step,)), (True, ())))


if __name__ == "__main__":
    unittest.main()
