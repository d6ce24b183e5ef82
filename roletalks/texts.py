"""Scripts, parts and rows of talks as texts (points 36 to 38)."""

from roletalks.basics import LAST_WORD
from roletalks.errors import InvalidText, NotText
from roletalks.parts import KINDS, MOST_STATES, check_part
from roletalks.scripts import LEAST_ACTORS, MOST_ACTORS, MOST_SCENES, MOST_TALKS, check_script, check_talks

ACTOR_NAMES = ("A", "B", "C", "D")
WORD_NAMES = ("a", "b", "c", "d", "e", "f")
REST_NAMES = ("go", "rest")
END_NAME = "end"


def check_text(value):
    """Raise NotText unless a value is a string."""
    if not isinstance(value, str):
        raise NotText("no string")


def words_of(line):
    """The words of a line."""
    return [word for word in line.split(" ") if word]


def number_names(many):
    """The names of the numbers below many."""
    return [str(number) for number in range(many)]


def read_name(names, words, at, line):
    """The number of the name that stands at a place, from 0, of the words of a line.

    InvalidText if the line ends ahead of it, or another word stands there.
    """
    if at >= len(words) or words[at] not in names:
        raise InvalidText(line, at + 1)
    return names.index(words[at])


def check_end_of_line(words, many, line):
    """Raise InvalidText if a line has more than so many words."""
    if len(words) > many:
        raise InvalidText(line, many + 1)


def write_script(script):
    """The text of a script."""
    check_script(script)
    actors, scenes = script
    return "\n".join([str(actors)] + [scene_line(scene) for scene in scenes])


def scene_line(scene):
    """The line of a scene."""
    if scene is None:
        return END_NAME
    speaker, branches = scene
    words = [ACTOR_NAMES[speaker]]
    for hearer, word, there in branches:
        words.extend([ACTOR_NAMES[hearer], WORD_NAMES[word], str(there)])
    return " ".join(words)


def read_script(text):
    """The script of a text."""
    check_text(text)
    lines = text.split("\n")
    first = words_of(lines[0])
    actors = LEAST_ACTORS + read_name(number_names(MOST_ACTORS + 1)[LEAST_ACTORS:], first, 0, 1)
    check_end_of_line(first, 1, 1)
    many = len(lines) - 1
    if many == 0:
        raise InvalidText(2, 1)
    if many > MOST_SCENES:
        raise InvalidText(MOST_SCENES + 2, 1)
    return actors, tuple([read_scene(words_of(lines[at]), at + 1, actors, many) for at in range(1, many + 1)])


def read_scene(words, line, actors, many):
    """The scene of the words of a line, in a script of so many actors and scenes."""
    if words[:1] == [END_NAME]:
        check_end_of_line(words, 1, line)
        return None
    names = ACTOR_NAMES[:actors]
    speaker = read_name(names, words, 0, line)
    branches = []
    at = 1
    while at < len(words) or not branches:
        hearer = read_name(names, words, at, line)
        if hearer == speaker:
            raise InvalidText(line, at + 1)
        word = read_name(WORD_NAMES, words, at + 1, line)
        if branches and (hearer, word) <= branches[-1][:2]:
            raise InvalidText(line, at + 2)
        branches.append((hearer, word, read_name(number_names(many), words, at + 2, line)))
        at += 3
    return speaker, tuple(branches)


def write_part(part):
    """The text of a part."""
    check_part(part)
    return "\n".join([state_line(state) for state in part])


def state_line(state):
    """The line of a state."""
    rest, steps = state
    words = [REST_NAMES[int(rest)]]
    for kind, other, word, there in steps:
        words.extend([kind, ACTOR_NAMES[other], WORD_NAMES[word], str(there)])
    return " ".join(words)


def read_part(text):
    """The part of a text."""
    check_text(text)
    lines = text.split("\n")
    if len(lines) > MOST_STATES:
        raise InvalidText(MOST_STATES + 1, 1)
    return tuple([read_state(words_of(line), at + 1, len(lines)) for at, line in enumerate(lines)])


def read_state(words, line, many):
    """The state of the words of a line, in a part of so many states."""
    rest = read_name(REST_NAMES, words, 0, line) == 1
    steps = []
    at = 1
    while at < len(words):
        kind = KINDS[read_name(KINDS, words, at, line)]
        other = read_name(ACTOR_NAMES, words, at + 1, line)
        word = read_name(WORD_NAMES, words, at + 2, line)
        if steps and (kind, other, word) <= steps[-1][:3]:
            raise InvalidText(line, at + 3)
        steps.append((kind, other, word, read_name(number_names(many), words, at + 3, line)))
        at += 4
    return rest, tuple(steps)


def talk_word(talk):
    """The word of a text for a talk."""
    speaker, hearer, word = talk
    return ACTOR_NAMES[speaker] + WORD_NAMES[word] + ACTOR_NAMES[hearer]


def write_talks(script, talks):
    """The text of a row of talks of the script's actors."""
    check_script(script)
    check_talks(talks, script[0])
    return " ".join([talk_word(talk) for talk in talks])


def read_talks(script, text):
    """The row of talks of the script's actors of a text."""
    check_script(script)
    check_text(text)
    lines = text.split("\n")
    words = words_of(lines[0])
    talks = all_talks(script[0])
    names = [talk_word(talk) for talk in talks]
    found = [talks[read_name(names, words, at, 1)] for at in range(min(len(words), MOST_TALKS))]
    check_end_of_line(words, MOST_TALKS, 1)
    # A row of talks has one line alone, so that nothing can stand in another one.
    if len(lines) > 1:
        raise InvalidText(2, 1)
    return tuple(found)


def all_talks(actors):
    """All talks of so many actors."""
    return [(speaker, hearer, word) for speaker in range(actors) for hearer in range(actors) if hearer != speaker
            for word in range(LAST_WORD + 1)]
