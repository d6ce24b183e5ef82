"""The errors that the package raises."""


class TalkError(ValueError):
    """The base class of all errors of the package."""


class BadScript(TalkError):
    """A value that is no script; index is the first item that is no scene, None if more is wrong."""

    def __init__(self, index):
        TalkError.__init__(self, f"no script, the first wrong scene: {index}")
        self.index = index


class BadPart(TalkError):
    """A value that is no part; index is the first item that is no state, None if more is wrong."""

    def __init__(self, index):
        TalkError.__init__(self, f"no part, the first wrong state: {index}")
        self.index = index


class BadCast(TalkError):
    """A value that is no cast; index is the first item that is no such part, None if more is wrong."""

    def __init__(self, index):
        TalkError.__init__(self, f"no cast, the first wrong part: {index}")
        self.index = index


class BadActor(TalkError):
    """A value that is no actor here."""


class BadScene(TalkError):
    """A value that is no scene of the script."""


class BadNumber(TalkError):
    """A value that is no such number, or a number that is not allowed here."""


class BadTalks(TalkError):
    """A value that is no row of talks; index is the first item that is no talk, None if more is wrong."""

    def __init__(self, index):
        TalkError.__init__(self, f"no row of talks, the first wrong talk: {index}")
        self.index = index


class BadEvents(TalkError):
    """A value that is no row of events; index is the first item that is no event, None if more is wrong."""

    def __init__(self, index):
        TalkError.__init__(self, f"no row of events, the first wrong event: {index}")
        self.index = index


class BadRow(TalkError):
    """A value that is no row of doings; index is the first item that is no doing, None if more is wrong."""

    def __init__(self, index):
        TalkError.__init__(self, f"no row of doings, the first wrong doing: {index}")
        self.index = index


class BadNames(TalkError):
    """A value that is no tuple of new names."""


class BadBranch(TalkError):
    """A value that is no place of a branch."""


class NotMade(TalkError):
    """What is asked for cannot be made of these arguments."""


class TooMany(TalkError):
    """More than most would be needed."""

    def __init__(self, most):
        TalkError.__init__(self, f"more than {most}")
        self.most = most


class NotText(TalkError):
    """A value that is no string."""


class InvalidText(TalkError):
    """A text in which a word of a line, both counted from 1, cannot stand there."""

    def __init__(self, line, word):
        TalkError.__init__(self, f"line {line}, word {word} cannot stand there")
        self.line = line
        self.word = word


class NothingToUndo(TalkError):
    """No doing is left that could be taken back."""


class NothingToRedo(TalkError):
    """No doing that was taken back could be done again."""
