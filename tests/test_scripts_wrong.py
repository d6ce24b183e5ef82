"""Points 1, 2 and 5: wrong arguments of the functions over scripts, and what is just still allowed."""

import unittest

from roletalks import scripts
from roletalks.errors import BadNumber, BadScript, BadTalks, TalkError
from tests.support import ODD, WRONG_MANY, TalkCase

ALONE = ("reached_scenes", "end_scenes", "has_rounds", "always_ends", "trimmed", "speakers", "silent", "shortest_way")
WITH_MANY = ("ways", "whole_ways", "count_ways", "count_whole")

GOOD = (2, ((0, ((1, 0, 1),)), None))

# Scripts that are wrong as a whole.
WRONG_FORMS = ODD + [
    (2,), (2, (None,), 0), [2, (None,)], (2, [None]), (2, None), (2, ()), (2, (None,) * 9), (2, {0: None}), (2, "ab"),
    (1, (None,)), (5, (None,)), (0, (None,)), (-2, (None,)), (True, (None,)), (None, (None,)), ("2", (None,)),
    ((2,), (None,)), ((None,), 2), (1, (7,)), (2, [7]), (5, ((0, ((0, 0, 0),)),)),
]

# Values that are no scene of a script of two actors and two scenes.
WRONG_SCENES = [value for value in ODD if value is not None] + [
    (), (0,), (0, ((1, 0, 1),), 0), [0, ((1, 0, 1),)], (0, None), (0, ()), (0, []), (0, [(1, 0, 1)]), (0, 1),
    (((1, 0, 1),), 0),
    # speakers
    (-1, ((1, 0, 1),)), (2, ((1, 0, 1),)), (False, ((1, 0, 1),)), (True, ((0, 0, 1),)), (None, ((1, 0, 1),)),
    ("0", ((1, 0, 1),)), ((0,), ((1, 0, 1),)),
    # branches
    (0, (None,)), (0, (1, 0, 1)), (0, ([1, 0, 1],)), (0, ((),)), (0, ((1, 0),)), (0, ((1, 0, 1, 0),)),
    # hearers
    (0, ((0, 0, 1),)), (1, ((1, 0, 1),)), (0, ((-1, 0, 1),)), (0, ((2, 0, 1),)), (0, ((True, 0, 1),)),
    (1, ((False, 0, 1),)), (0, ((None, 0, 1),)), (0, (("1", 0, 1),)),
    # words
    (0, ((1, -1, 1),)), (0, ((1, 6, 1),)), (0, ((1, True, 1),)), (0, ((1, False, 1),)), (0, ((1, None, 1),)),
    (0, ((1, "a", 1),)), (0, ((1, (0,), 1),)),
    # next scenes
    (0, ((1, 0, -1),)), (0, ((1, 0, 2),)), (0, ((1, 0, True),)), (0, ((1, 0, False),)), (0, ((1, 0, None),)),
    (0, ((1, 0, (1,)),)),
    # a later branch, the order, and the same words twice
    (0, ((1, 0, 1), (1, 6, 1))), (0, ((1, 0, 1), None)), (0, ((1, 0, 1), (1, 1, 1), (1, 2, 2))),
    (0, ((1, 1, 0), (1, 0, 1))), (0, ((1, 0, 0), (1, 2, 0), (1, 1, 0))), (0, ((1, 0, 0), (1, 0, 0))),
    (0, ((1, 0, 0), (1, 0, 1))), (0, ((1, 0, 1), (1, 0, 0))), (0, ((1, 0, 0), (1, 1, 0), (1, 1, 1))),
]

# Scripts whose first wrong scene has the index.
WRONG_PLACES = [
    ((2, (7,)), 0), ((2, (None, 7)), 1), ((2, (7, 8)), 0), ((2, (None,) * 7 + (7,)), 7),
    ((2, ((0, ((1, 0, 3),)), None, 7)), 0), ((3, (None, (2, ((2, 0, 0),)), 7)), 1),
    ((4, ((0, ((3, 0, 0), (1, 0, 0))),)), 0), ((4, ((3, ((4, 0, 0),)),)), 0), ((4, ((4, ((0, 0, 0),)),)), 0),
    ((4, ((0, ((1, 5, 0), (2, 0, 0), (1, 5, 0))),)), 0), ((3, ((0, ((1, 0, 0), (3, 0, 0))),)), 0),
]

# Scripts at the edge of what is allowed.
ALLOWED = [
    (2, (None,)), (4, (None,)), (2, (None,) * 8), (2, ((1, ((0, 5, 0),)),)), (2, ((0, ((1, 0, 7),)),) + (None,) * 7),
    (4, ((3, ((0, 5, 0), (1, 0, 0), (2, 0, 0), (2, 5, 0))),)),
    (3, ((2, tuple([(hearer, word, 0) for hearer in (0, 1) for word in range(6)])),)),
]

# Rows of talks that are wrong as a whole.
WRONG_ROWS = [value for value in ODD if not isinstance(value, tuple)] + [
    [(0, 1, 0)], ((0, 1, 0),) * 13, (7,) * 13, {(0, 1, 0): 0},
]

# Values that are no talk of two actors.
WRONG_TALKS = ODD + [
    (), (0, 1), (0, 1, 0, 0), [0, 1, 0], (0, 0, 0), (1, 1, 0), (-1, 1, 0), (2, 1, 0), (0, -1, 0), (0, 2, 0),
    (0, 1, -1), (0, 1, 6), (False, 1, 0), (True, 0, 0), (0, True, 0), (1, False, 0), (0, 1, True), (0, 1, False),
    (None, 1, 0), (0, None, 0), (0, 1, None), ("0", 1, 0), (0, 1, "a"), ((0, 1, 0),),
]


class WrongScripts:
    """Tests of all functions that calls() gives, each with arguments that are right but for the script in front."""

    def test_wrong_as_a_whole(self):
        for function, rest in self.calls():
            for script in WRONG_FORMS:
                self.raises(BadScript, {"index": None}, function, script, *rest)

    def test_a_wrong_scene(self):
        for function, rest in self.calls():
            for scene in WRONG_SCENES:
                self.raises(BadScript, {"index": 0}, function, (2, (scene, None)), *rest)
                self.raises(BadScript, {"index": 1}, function, (2, (None, scene)), *rest)

    def test_the_first_wrong_scene(self):
        for function, rest in self.calls():
            for script, index in WRONG_PLACES:
                self.raises(BadScript, {"index": index}, function, script, *rest)

    def test_what_is_just_allowed(self):
        for function, rest in self.calls():
            for script in ALLOWED:
                before = repr(script)
                function(script, *rest)
                self.assertEqual(repr(script), before)


class WrongScriptTest(WrongScripts, TalkCase):
    def calls(self):
        for name in ALONE:
            yield getattr(scripts, name), ()
        for name in WITH_MANY:
            yield getattr(scripts, name), (2,)
        yield scripts.follow, ((),)


class WrongNumberTest(TalkCase):
    def test_wrong_numbers(self):
        for name in WITH_MANY:
            for many in WRONG_MANY:
                self.raises(BadNumber, {}, getattr(scripts, name), GOOD, many)

    def test_the_least_and_the_most(self):
        for name in WITH_MANY:
            for many in (0, 1, 12):
                self.assertIn(getattr(scripts, name)((2, (None,)), many), ([()], [], 0, 1))

    def test_the_script_stands_first(self):
        for name in WITH_MANY:
            self.raises(BadScript, {"index": None}, getattr(scripts, name), None, None)
            self.raises(BadScript, {"index": 1}, getattr(scripts, name), (2, (None, 7)), 13)


class WrongTalksTest(TalkCase):
    def test_wrong_as_a_whole(self):
        for talks in WRONG_ROWS:
            self.raises(BadTalks, {"index": None}, scripts.follow, GOOD, talks)

    def test_a_wrong_talk(self):
        for talk in WRONG_TALKS:
            self.raises(BadTalks, {"index": 0}, scripts.follow, GOOD, (talk,))
            self.raises(BadTalks, {"index": 1}, scripts.follow, GOOD, ((0, 1, 0), talk))
            self.raises(BadTalks, {"index": 11}, scripts.follow, GOOD, ((1, 0, 5),) * 11 + (talk,))

    def test_the_first_wrong_talk(self):
        self.raises(BadTalks, {"index": 1}, scripts.follow, GOOD, ((0, 1, 0), (0, 0, 0), 7))

    def test_a_talk_that_cannot_be_is_not_told_ahead_of_a_wrong_one(self):
        self.raises(BadTalks, {"index": 1}, scripts.follow, GOOD, ((1, 0, 4), None))

    def test_the_actors_are_those_of_the_script(self):
        for actors in (2, 3, 4):
            script = (actors, (None,))
            self.same(scripts.follow(script, ((actors - 1, 0, 5), (0, actors - 1, 0))), None)
            self.raises(BadTalks, {"index": 0}, scripts.follow, script, ((actors, 0, 0),))
            self.raises(BadTalks, {"index": 1}, scripts.follow, script, ((0, 1, 0), (0, actors, 0)))

    def test_the_script_stands_first(self):
        self.raises(BadScript, {"index": None}, scripts.follow, None, None)
        self.raises(BadScript, {"index": 1}, scripts.follow, (2, (None, 7)), ((0, 0, 0),))

    def test_every_error_is_a_talk_error(self):
        with self.assertRaises(TalkError):
            scripts.follow(GOOD, None)
        with self.assertRaises(ValueError):
            scripts.follow(None, ())


if __name__ == "__main__":
    unittest.main()
