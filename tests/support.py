"""What the tests share: exact comparison, errors with their fields, and odd values."""

import inspect
import random
import unittest

from roletalks.errors import BadScript, TalkError

# Values of all kinds that an argument may have; none is a script, a part, a row or a number from 2 to 12.
ODD = [
    None, True, False, -1, 300, "", "say", "0", (None,), (0,), (True,), ("say",), [], [0], [None], {}, {0: 1},
    TalkError("odd"), BadScript(None),
]

# Numbers that are not from 0 to 12, and values that are no numbers.
WRONG_MANY = [None, True, False, -1, 13, 300, "", "2", (), (2,), [], [2], {}, TalkError("odd")]


# Numbers that are not from 1 to 3 and from 0 to 40, and values that are no numbers.
WRONG_SIZES = [None, True, False, -1, 0, 4, 300, "", "2", (), (2,), [], [2], {}, TalkError("odd")]
WRONG_LONG = [None, True, False, -1, 41, 300, "", "2", (), (2,), [], [2], {}, TalkError("odd")]


class TalkCase(unittest.TestCase):
    """Compares by repr, for which 1 and True, or a list and a tuple, are not the same."""

    def same(self, value, expected, told=None):
        self.assertEqual(repr(value), repr(expected), told)

    def defines(self, module, interface):
        """The module itself defines each function of an interface, with these arguments."""
        for name, arguments in interface.items():
            function = getattr(module, name)
            self.assertEqual(function.__module__, module.__name__, name)
            self.assertEqual(list(inspect.signature(function).parameters), arguments, name)

    def raises(self, error, fields, function, *arguments):
        """The call raises just this error with these fields, and leaves its arguments as they were."""
        before = repr(arguments)
        with self.assertRaises(TalkError, msg=before) as caught:
            function(*arguments)
        told = f"{function.__name__}{before}"
        self.assertIs(caught.exception.__class__, error, told)
        self.assertEqual(repr(vars(caught.exception)), repr(fields), told)
        self.assertEqual(repr(arguments), before)


def some_scripts(many, seed):
    """Scripts of all sizes, always the same ones for a seed."""
    chance = random.Random(seed)
    return [some_script(chance) for _ in range(many)]


def some_script(chance):
    actors = chance.randint(2, 4)
    scenes = chance.randint(1, 8)
    return actors, tuple([some_scene(chance, actors, scenes) for _ in range(scenes)])


def some_scene(chance, actors, scenes):
    if chance.random() < 0.25:
        return None
    speaker = chance.randrange(actors)
    heard = [(hearer, word) for hearer in range(actors) if hearer != speaker for word in (0, 2, 5)]
    chosen = sorted(chance.sample(heard, chance.randint(1, min(3, len(heard)))))
    return speaker, tuple([(hearer, word, chance.randrange(scenes)) for hearer, word in chosen])


def some_parts(many, seed):
    """Parts of few states and events, so that many states do the same."""
    chance = random.Random(seed)
    return [some_part(chance) for _ in range(many)]


def some_part(chance):
    states = chance.randint(1, 6)
    return tuple([some_state(chance, states) for _ in range(states)])


def some_state(chance, states):
    events = [(kind, other, word) for kind in ("hear", "say") for other in (0, 3) for word in (0, 5)]
    chosen = sorted(chance.sample(events, chance.randint(0, 2)))
    return chance.random() < 0.5, tuple([event + (chance.randrange(states),) for event in chosen])


def some_short_scripts(many, seed):
    """Scripts without rounds, always the same ones for a seed."""
    chance = random.Random(seed)
    return [some_short_script(chance) for _ in range(many)]


def some_short_script(chance):
    actors = chance.randint(2, 4)
    scenes = chance.randint(2, 8)
    return actors, tuple([some_earlier_scene(chance, actors, scenes, at) for at in range(scenes - 1)]) + (None,)


def some_earlier_scene(chance, actors, scenes, at):
    """A scene all branches of which lead to one of the next three scenes, or an end."""
    if chance.random() < 0.1:
        return None
    speaker = chance.randrange(actors)
    heard = [(hearer, word) for hearer in range(actors) if hearer != speaker for word in (0, 5)]
    chosen = sorted(chance.sample(heard, chance.randint(1, 2)))
    return speaker, tuple([branch + (chance.randrange(at + 1, min(scenes, at + 4)),) for branch in chosen])


def some_casts(many, seed):
    """Casts of few states that are not cut out of a script, always the same ones for a seed."""
    chance = random.Random(seed)
    return [some_cast(chance) for _ in range(many)]


def some_cast(chance):
    actors = chance.randint(2, 4)
    return tuple([some_part_of(chance, actor, actors) for actor in range(actors)])


def some_part_of(chance, actor, actors):
    states = chance.randint(1, 3)
    events = [(kind, other, word) for kind in ("hear", "say") for other in range(actors) if other != actor
              for word in (0, 5)]
    return tuple([(chance.random() < 0.5, tuple([event + (chance.randrange(states),) for event
                                                 in sorted(chance.sample(events, chance.randint(0, 2)))]))
                  for _ in range(states)])
