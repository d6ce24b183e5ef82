"""Points 1 and 9 to 13: wrong arguments of the functions over cuts and faults, and what is just still allowed."""

import unittest

from roletalks import cuts, sound
from roletalks.errors import BadActor, BadScene, BadScript
from tests.support import TalkCase
from tests.test_scripts_wrong import WrongScripts

ALONE = (cuts.count_sets, cuts.cast_of, sound.fault, sound.is_sound)
WITH_ACTOR = (cuts.cut, cuts.scene_sets, cuts.mixed_states, sound.bad_says, sound.bad_hears)
WITH_SCENE = (cuts.joined, sound.first_letters)

GOOD = (2, ((0, ((1, 0, 1),)), None))

# Values that are no actor and no scene of any script.
NO_NUMBERS = [None, True, False, "", "0", (), (0,), [], [0], {}, {0: 0}, BadActor("odd"), ((0,),)]


class WrongScriptTest(WrongScripts, TalkCase):
    def calls(self):
        for function in ALONE:
            yield function, ()
        for function in WITH_ACTOR:
            yield function, (0,)
        for function in WITH_SCENE:
            yield function, (0, 0)


class WrongActorTest(TalkCase):
    def test_no_actor(self):
        for actor in NO_NUMBERS + [-1, 2, 3, 300]:
            for function in WITH_ACTOR:
                self.raises(BadActor, {}, function, GOOD, actor)
            for function in WITH_SCENE:
                self.raises(BadActor, {}, function, GOOD, 1, actor)

    def test_the_first_and_the_last_actor(self):
        for actors in (2, 3, 4):
            script = (actors, (None,))
            for function in WITH_ACTOR:
                self.same(function(script, 0), function(script, actors - 1))
                self.raises(BadActor, {}, function, script, actors)
                self.raises(BadActor, {}, function, script, -1)
            for function in WITH_SCENE:
                self.same(function(script, 0, 0), function(script, 0, actors - 1))
                self.raises(BadActor, {}, function, script, 0, actors)
                self.raises(BadActor, {}, function, script, 0, -1)


class WrongSceneTest(TalkCase):
    def test_no_scene(self):
        for scene in NO_NUMBERS + [-1, 2, 7, 300]:
            for function in WITH_SCENE:
                self.raises(BadScene, {}, function, GOOD, scene, 0)

    def test_the_first_and_the_last_scene(self):
        for scenes in (1, 8):
            script = (2, (None,) * scenes)
            self.same(cuts.joined(script, 0, 1), (0,))
            self.same(cuts.joined(script, scenes - 1, 1), (scenes - 1,))
            self.same(sound.first_letters(script, scenes - 1, 1), ())
            for function in WITH_SCENE:
                self.raises(BadScene, {}, function, script, scenes, 0)
                self.raises(BadScene, {}, function, script, -1, 0)


class OrderTest(TalkCase):
    def test_the_script_stands_first(self):
        for function in WITH_ACTOR:
            self.raises(BadScript, {"index": None}, function, None, None)
            self.raises(BadScript, {"index": 1}, function, (2, (None, 7)), 2)
        for function in WITH_SCENE:
            self.raises(BadScript, {"index": None}, function, None, None, None)
            self.raises(BadScript, {"index": 1}, function, (2, (None, 7)), 2, 2)

    def test_the_scene_stands_ahead_of_the_actor(self):
        for function in WITH_SCENE:
            self.raises(BadScene, {}, function, GOOD, 2, 2)
            self.raises(BadScene, {}, function, GOOD, None, None)
            self.raises(BadActor, {}, function, GOOD, 1, None)


if __name__ == "__main__":
    unittest.main()
