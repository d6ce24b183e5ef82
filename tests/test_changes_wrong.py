"""Points 1, 32 to 35: wrong arguments of the functions over changes."""

import unittest

from roletalks import changes
from roletalks.errors import BadActor, BadBranch, BadCast, BadEvents, BadNames, BadNumber, BadPart, BadScene, BadScript
from roletalks.errors import NotMade, TooMany
from tests import test_parts_wrong, test_scripts_wrong, test_stage_wrong
from tests.support import ODD, TalkCase
from tests.test_changes import ASKED, END, ONE_TALK, SAYS, ends
from tests.test_parts_wrong import RESTING, WRONG_EVENTS, WRONG_FORMS, WRONG_STATES, WRONG_STEPS

DONE = (RESTING,)
WORDS = (0, 1, 2, 3, 4, 5)
EIGHT = ends(8)

# Values that are no number of a scene, a place, a state or an actor from 0 to 1.
WRONG_AT = [None, True, False, -1, 2, 300, "", "0", "A", (), (0,), [], [0], {}, {0: 1}]

# Values that are no names of two actors.
WRONG_NAMES = ODD + [
    (), (0,), (0, 1, 2), [0, 1], [1, 0], {0: 1, 1: 0}, "01", "ab", (0, 0), (1, 1), (0, 2), (1, 2), (-1, 0), (0, -1),
    (True, 0), (False, 1), (0, True), (1, False), (None, 0), (0, None), ("0", "1"), ((0,), (1,)), ([], 0), (0, []), ({}, 1),
]


def script_calls():
    """Each function with the arguments ahead of a script and behind it, the script having these arguments wrong."""
    yield changes.renamed_actors, (), (None,)
    yield changes.renamed_words, (), (None,)
    yield changes.without, (), (None, None)
    yield changes.led, (), (None, None, None)
    yield changes.swapped, (), (None,)
    yield changes.repeated, (), ()
    yield changes.followed_by, (), (None,)
    yield changes.followed_by, (END,), ()
    # BadScript stands ahead of BadActor.
    yield changes.chosen, (None, None), (None,)
    yield changes.chosen, (9, 9, END), ()


def part_calls():
    """Each function with the arguments ahead of a part and behind it, the later ones being wrong."""
    yield changes.without_event, (), (None, None)
    yield changes.plus_event, (), (None, None, None)
    yield changes.resting, (), (None, None)
    yield changes.with_part, ((DONE, DONE), 0), ()


class WrongScriptTest(TalkCase):
    def test_wrong_as_a_whole(self):
        for function, ahead, rest in script_calls():
            for script in test_scripts_wrong.WRONG_FORMS:
                self.raises(BadScript, {"index": None}, function, *ahead, script, *rest)

    def test_a_wrong_scene(self):
        for function, ahead, rest in script_calls():
            for scene in test_scripts_wrong.WRONG_SCENES:
                self.raises(BadScript, {"index": 0}, function, *ahead, (2, (scene, None)), *rest)
                self.raises(BadScript, {"index": 1}, function, *ahead, (2, (None, scene)), *rest)

    def test_the_first_wrong_scene(self):
        for function, ahead, rest in script_calls():
            for script, index in test_scripts_wrong.WRONG_PLACES:
                self.raises(BadScript, {"index": index}, function, *ahead, script, *rest)

    def test_what_is_just_allowed(self):
        for script in test_scripts_wrong.ALLOWED:
            names = tuple(reversed(range(script[0])))
            for function, rest in [(changes.renamed_actors, (names,)), (changes.renamed_words, (WORDS,))]:
                before = repr((script, rest))
                function(script, *rest)
                self.assertEqual(repr((script, rest)), before)


class WrongPartTest(TalkCase):
    def test_wrong_parts(self):
        for function, ahead, rest in part_calls():
            for part in WRONG_FORMS:
                self.raises(BadPart, {"index": None}, function, *ahead, part, *rest)
            for state in WRONG_STATES:
                self.raises(BadPart, {"index": 0}, function, *ahead, (state, RESTING), *rest)
                self.raises(BadPart, {"index": 1}, function, *ahead, (RESTING, state), *rest)
            for step in WRONG_STEPS:
                self.raises(BadPart, {"index": 0}, function, *ahead, ((False, (step,)), RESTING), *rest)
            self.raises(BadPart, {"index": 254}, function, *ahead, (RESTING,) * 254 + (7, 8)[:1], *rest)

    def test_wrong_casts(self):
        for cast in test_stage_wrong.WRONG_CASTS:
            self.raises(BadCast, {"index": None}, changes.with_part, cast, None, None)
        for part in WRONG_FORMS:
            self.raises(BadCast, {"index": 1}, changes.with_part, (DONE, part, 7), None, None)
        for step in test_stage_wrong.WRONG_STEPS:
            self.raises(BadCast, {"index": 1},
                        changes.with_part, (DONE, ((False, (step,)), RESTING), DONE), None, None)


class WrongNamesTest(TalkCase):
    def test_names_of_actors(self):
        for names in WRONG_NAMES:
            self.raises(BadNames, {}, changes.renamed_actors, ONE_TALK, names)
        self.raises(BadNames, {}, changes.renamed_actors, (3, (None,)), (0, 1))
        self.raises(BadNames, {}, changes.renamed_actors, (4, (None,)), (0, 1, 2, 2))
        self.raises(BadNames, {}, changes.renamed_actors, (4, (None,)), (1, 2, 3, 4))
        self.raises(BadNames, {}, changes.renamed_actors, (2, (None,)), WORDS)

    def test_names_of_words(self):
        for names in WRONG_NAMES + [WORDS[:5], WORDS + (6,), list(WORDS), WORDS[:5] + (4,), WORDS[:5] + (6,), (0, 1)]:
            self.raises(BadNames, {}, changes.renamed_words, ONE_TALK, names)
        for wrong in (True, None, "5", (5,), -1, []):
            self.raises(BadNames, {}, changes.renamed_words, ONE_TALK, (0, wrong, 2, 3, 4, 5))
        self.raises(BadNames, {}, changes.renamed_words, ONE_TALK, (0, True, 2, 3, 4, 5))
        self.raises(BadNames, {}, changes.renamed_words, ONE_TALK, (False, 1, 2, 3, 4, 5))


class WrongPlaceTest(TalkCase):
    def test_scenes(self):
        for scene in WRONG_AT:
            self.raises(BadScene, {}, changes.without, ONE_TALK, scene, None)
            self.raises(BadScene, {}, changes.led, ONE_TALK, scene, None, None)
            self.raises(BadScene, {}, changes.led, ONE_TALK, 0, 0, scene)
            self.raises(BadScene, {}, changes.swapped, ONE_TALK, scene)

    def test_places_of_branches(self):
        for place in WRONG_AT:
            self.raises(BadBranch, {}, changes.without, ASKED, 0, place)
            self.raises(BadBranch, {}, changes.led, ASKED, 0, place, None)

    def test_actors(self):
        for actor in WRONG_AT:
            self.raises(BadActor, {}, changes.with_part, (DONE, DONE), actor, None)
            self.raises(BadActor, {}, changes.chosen, actor, None, END, END)
            self.raises(BadActor, {}, changes.chosen, actor, 1, END, END)
            self.raises(BadActor, {}, changes.chosen, 0, actor, END, END)
        for actors in (2, 3, 4):
            changes.with_part((DONE,) * actors, actors - 1, DONE)
            self.raises(BadActor, {}, changes.with_part, (DONE,) * actors, actors, DONE)
            script = (actors, (None,))
            changes.chosen(0, actors - 1, script, script)
            self.raises(BadActor, {}, changes.chosen, 0, actors, script, script)

    def test_states(self):
        for state in WRONG_AT:
            self.raises(BadNumber, {}, changes.without_event, SAYS, state, None)
            self.raises(BadNumber, {}, changes.plus_event, SAYS, state, None, None)
            self.raises(BadNumber, {}, changes.plus_event, SAYS, 0, ("hear", 0, 0), state)
            self.raises(BadNumber, {}, changes.plus_event, SAYS, 0, ("say", 1, 0), state)
            self.raises(BadNumber, {}, changes.resting, SAYS, state, None)

    def test_events(self):
        for event in WRONG_EVENTS:
            self.raises(BadEvents, {"index": None}, changes.without_event, SAYS, 0, event)
            self.raises(BadEvents, {"index": None}, changes.plus_event, SAYS, 0, event, None)

    def test_rest(self):
        for rest in [None, 0, 1, -1, "", "rest", (), (True,), [], [True], {}]:
            self.raises(BadNumber, {}, changes.resting, SAYS, 0, rest)


class OrderTest(TalkCase):
    def test_not_made_stands_behind_all(self):
        self.raises(BadBranch, {}, changes.without, ONE_TALK, 0, 1)
        self.raises(BadScene, {}, changes.led, ONE_TALK, 2, 7, 7)
        self.raises(BadBranch, {}, changes.led, ONE_TALK, 0, 7, 7)
        self.raises(BadNumber, {}, changes.plus_event, SAYS, 0, ("say", 1, 0), 2)
        self.raises(BadPart, {"index": 0}, changes.with_part, (DONE, DONE), 1, (7,))
        self.raises(BadActor, {}, changes.with_part, (DONE, DONE), 2, (7,))

    def test_chosen(self):
        self.raises(BadScript, {"index": 0}, changes.chosen, 9, 9, (2, (7,)), None)
        self.raises(BadScript, {"index": None}, changes.chosen, 9, 9, END, None)
        self.raises(BadActor, {}, changes.chosen, 2, 2, END, (3, (None,)))
        self.raises(BadActor, {}, changes.chosen, 0, 2, END, (3, (None,)))
        self.raises(BadActor, {}, changes.chosen, 2, 2, EIGHT, EIGHT)
        self.raises(NotMade, {}, changes.chosen, 2, 1, (3, (None,)), END)
        self.raises(NotMade, {}, changes.chosen, 0, 0, EIGHT, EIGHT)
        self.raises(TooMany, {"most": 8}, changes.chosen, 0, 1, EIGHT, EIGHT)

    def test_followed_by(self):
        self.raises(BadScript, {"index": 1}, changes.followed_by, (2, (None, 7)), None)
        self.raises(BadScript, {"index": 0}, changes.followed_by, EIGHT, (3, (7,)))
        self.raises(NotMade, {}, changes.followed_by, EIGHT, (3, (None,)))


if __name__ == "__main__":
    unittest.main()
