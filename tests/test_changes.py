"""Points 32 to 35: scripts, casts and parts with a change."""

import unittest

from roletalks import changes as module
from roletalks.changes import chosen, followed_by, led, plus_event, renamed_actors, renamed_words, repeated, resting
from roletalks.changes import swapped, with_part, without, without_event
from roletalks.cuts import cast_of
from roletalks.errors import BadBranch, BadScene, NotMade, TooMany
from roletalks.rebuilding import are_alike
from roletalks.scripts import end_scenes, has_rounds, reached_scenes, ways, whole_ways
from tests.support import TalkCase, some_parts, some_scripts, some_short_scripts

END = (2, (None,))
ONE_TALK = (2, ((0, ((1, 0, 1),)), None))
ASKED = (2, ((0, ((1, 0, 1), (1, 1, 2))), (1, ((0, 2, 0),)), None))
TOLD = (3, ((0, ((1, 0, 1), (1, 1, 2))), (1, ((2, 0, 3),)), (1, ((2, 1, 3),)), None))
APART = (4, ((0, ((1, 0, 1),)), (2, ((3, 0, 2),)), None))
MANY = (4, ((1, ((0, 5, 0), (2, 0, 1), (2, 3, 0), (3, 1, 1))), None))
DONE = ((True, ()),)
SAYS = ((False, (("say", 1, 0, 1),)), (True, ()))
ANY = ((False, (("hear", 0, 1, 0), ("hear", 2, 0, 1), ("say", 1, 0, 1), ("say", 1, 5, 0))), (True, ()))

INTERFACE = {
    "renamed_actors": ["script", "names"], "renamed_words": ["script", "names"], "without": ["script", "scene", "place"],
    "led": ["script", "scene", "place", "there"], "swapped": ["script", "scene"], "followed_by": ["one", "other"],
    "chosen": ["speaker", "hearer", "one", "other"], "repeated": ["script"], "with_part": ["cast", "actor", "part"],
    "without_event": ["part", "state", "event"], "plus_event": ["part", "state", "event", "there"],
    "resting": ["part", "state", "rest"],
}


def ends(many):
    """A script of two actors, of many scenes, that goes from scene to scene."""
    return (2, tuple([(0, ((1, 0, at + 1),)) for at in range(many - 1)]) + (None,))


class InterfaceTest(TalkCase):
    def test_names_and_arguments(self):
        self.defines(module, INTERFACE)


class NameTest(TalkCase):
    def test_actors(self):
        self.same(renamed_actors(ONE_TALK, (0, 1)), ONE_TALK)
        self.same(renamed_actors(ASKED, (1, 0)), (2, ((1, ((0, 0, 1), (0, 1, 2))), (0, ((1, 2, 0),)), None)))
        self.same(renamed_actors(TOLD, (2, 0, 1)), (3, ((2, ((0, 0, 1), (0, 1, 2))), (0, ((1, 0, 3),)),
                                                         (0, ((1, 1, 3),)), None)))
        self.same(renamed_actors((4, (None, None)), (3, 2, 1, 0)), (4, (None, None)))

    def test_words(self):
        self.same(renamed_words(ONE_TALK, (0, 1, 2, 3, 4, 5)), ONE_TALK)
        self.same(renamed_words(ASKED, (1, 0, 5, 3, 4, 2)), (2, ((0, ((1, 0, 2), (1, 1, 1))), (1, ((0, 5, 0),)), None)))
        self.same(renamed_words(END, (5, 4, 3, 2, 1, 0)), END)

    def test_branches_stay_ascending(self):
        self.same(renamed_actors(MANY, (3, 2, 1, 0)), (4, ((2, ((0, 1, 1), (1, 0, 1), (1, 3, 0), (3, 5, 0))), None)))
        self.same(renamed_words(MANY, (5, 4, 3, 2, 1, 0)), (4, ((1, ((0, 0, 0), (2, 2, 0), (2, 5, 1), (3, 4, 1))), None)))

    def test_names_back(self):
        names = (2, 0, 3, 1)
        back = (1, 3, 0, 2)
        words = (1, 2, 3, 4, 5, 0)
        words_back = (5, 0, 1, 2, 3, 4)
        for script in some_scripts(100, 91):
            if script[0] == 4:
                self.same(renamed_actors(renamed_actors(script, names), back), script)
            self.same(renamed_words(renamed_words(script, words), words_back), script)

    def test_ways_have_the_new_names(self):
        for script in some_scripts(60, 92):
            names = tuple([(actor + 1) % script[0] for actor in range(script[0])])
            words = (3, 5, 0, 1, 2, 4)
            for many in (1, 2, 3):
                found = ways(script, many)
                named = sorted([tuple([(names[talk[0]], names[talk[1]], talk[2]) for talk in way]) for way in found])
                self.same(ways(renamed_actors(script, names), many), named)
                named = sorted([tuple([(talk[0], talk[1], words[talk[2]]) for talk in way]) for way in found])
                self.same(ways(renamed_words(script, words), many), named)


class BranchTest(TalkCase):
    def test_without(self):
        self.same(without(ASKED, 0, 0), (2, ((0, ((1, 1, 2),)), (1, ((0, 2, 0),)), None)))
        self.same(without(ASKED, 0, 1), (2, ((0, ((1, 0, 1),)), (1, ((0, 2, 0),)), None)))
        self.same(without(MANY, 0, 2), (4, ((1, ((0, 5, 0), (2, 0, 1), (3, 1, 1))), None)))

    def test_the_only_branch(self):
        self.raises(NotMade, {}, without, ONE_TALK, 0, 0)
        self.raises(NotMade, {}, without, ASKED, 1, 0)

    def test_led(self):
        self.same(led(ASKED, 0, 0, 0), (2, ((0, ((1, 0, 0), (1, 1, 2))), (1, ((0, 2, 0),)), None)))
        self.same(led(ASKED, 0, 1, 1), (2, ((0, ((1, 0, 1), (1, 1, 1))), (1, ((0, 2, 0),)), None)))
        self.same(led(ASKED, 1, 0, 2), (2, ((0, ((1, 0, 1), (1, 1, 2))), (1, ((0, 2, 2),)), None)))
        self.same(led(ASKED, 1, 0, 0), ASKED)
        self.same(led(ONE_TALK, 0, 0, 0), (2, ((0, ((1, 0, 0),)), None)))

    def test_no_place(self):
        for function, rest in ((without, ()), (led, (0,))):
            self.raises(BadBranch, {}, function, ASKED, 0, 2, *rest)
            self.raises(BadBranch, {}, function, ASKED, 0, -1, *rest)
            self.raises(BadBranch, {}, function, ASKED, 1, 1, *rest)
            self.raises(BadBranch, {}, function, ASKED, 2, 0, *rest)
            self.raises(BadBranch, {}, function, END, 0, 0, *rest)

    def test_no_scene(self):
        self.raises(BadScene, {}, led, ASKED, 0, 0, 3)
        self.raises(BadScene, {}, led, ASKED, 3, 0, 0)
        self.raises(BadScene, {}, without, ASKED, 3, 0)

    def test_all_against_the_words_of_the_document(self):
        for script in some_scripts(80, 93):
            for at, scene in enumerate(script[1]):
                for place in range(0 if scene is None else len(scene[1])):
                    listed = [one if one is None else [one[0], list(one[1])] for one in script[1]]
                    there = (at + place) % len(listed)
                    listed[at][1][place] = listed[at][1][place][:2] + (there,)
                    self.same(led(script, at, place, there), self.made(script, listed))
                    del listed[at][1][place]
                    if listed[at][1]:
                        self.same(without(script, at, place), self.made(script, listed))
                    else:
                        self.raises(NotMade, {}, without, script, at, place)

    def made(self, script, listed):
        return script[0], tuple([one if one is None else (one[0], tuple(one[1])) for one in listed])


class SwapTest(TalkCase):
    def test_swapped(self):
        self.same(swapped(APART, 0), (4, ((2, ((3, 0, 3),)), (2, ((3, 0, 2),)), None, (0, ((1, 0, 2),)))))
        script = (4, ((3, ((1, 5, 1),)), (0, ((2, 4, 0),))))
        self.same(swapped(script, 0), (4, ((0, ((2, 4, 2),)), (0, ((2, 4, 0),)), (3, ((1, 5, 0),)))))
        self.same(swapped(script, 1), (4, ((3, ((1, 5, 1),)), (3, ((1, 5, 2),)), (0, ((2, 4, 1),)))))

    def test_an_actor_in_both_talks(self):
        for speaker, hearer in [(0, 1), (1, 0), (0, 2), (2, 0), (1, 2), (2, 1), (0, 3), (3, 1)]:
            self.raises(NotMade, {}, swapped, (4, ((0, ((1, 0, 1),)), (speaker, ((hearer, 0, 2),)), None)), 0)
        for speaker, hearer in [(2, 3), (3, 2)]:
            swapped((4, ((0, ((1, 0, 1),)), (speaker, ((hearer, 0, 2),)), None)), 0)
        self.raises(NotMade, {}, swapped, (4, ((0, ((1, 0, 0),)),)), 0)

    def test_not_one_branch(self):
        self.raises(NotMade, {}, swapped, (4, ((0, ((1, 0, 1), (1, 1, 1))), (2, ((3, 0, 2),)), None)), 0)
        self.raises(NotMade, {}, swapped, (4, ((0, ((1, 0, 1),)), (2, ((3, 0, 2), (3, 1, 2))), None)), 0)
        self.raises(NotMade, {}, swapped, APART, 1)
        self.raises(NotMade, {}, swapped, APART, 2)
        self.raises(NotMade, {}, swapped, END, 0)

    def test_eight_scenes_and_nine(self):
        seven = (4, APART[1] + (None,) * 4)
        self.same(len(swapped(seven, 0)[1]), 8)
        eight = (4, APART[1] + (None,) * 5)
        self.raises(TooMany, {"most": 8}, swapped, eight, 0)
        self.raises(NotMade, {}, swapped, eight, 1)
        self.raises(NotMade, {}, swapped, eight, 7)

    def test_the_parts_do_the_same(self):
        tried = 0
        for script in some_scripts(200, 94) + some_short_scripts(1500, 95):
            for scene in range(len(script[1])):
                try:
                    found = swapped(script, scene)
                except (NotMade, TooMany):
                    continue
                self.same(are_alike(script, found), True, script)
                tried += 1
        self.assertGreater(tried, 10)


class TwoScriptsTest(TalkCase):
    def test_followed_by(self):
        self.same(followed_by(ONE_TALK, ONE_TALK), (2, ((0, ((1, 0, 1),)), (0, ((1, 0, 3),)), (0, ((1, 0, 3),)), None)))
        self.same(followed_by(END, END), (2, (None, None)))
        self.same(followed_by(ONE_TALK, END), (2, ((0, ((1, 0, 1),)), None, None)))
        self.same(followed_by(END, ASKED), (2, ((0, ((1, 0, 2), (1, 1, 3))), (0, ((1, 0, 2), (1, 1, 3))), (1, ((0, 2, 1),)),
                                                None)))
        never = (2, ((0, ((1, 0, 0),)), None))
        self.same(followed_by(never, ONE_TALK), (2, ((0, ((1, 0, 0),)), (0, ((1, 0, 3),)), (0, ((1, 0, 3),)), None)))
        no_end = (2, ((0, ((1, 0, 0),)),))
        self.same(followed_by(no_end, ONE_TALK), (2, ((0, ((1, 0, 0),)), (0, ((1, 0, 2),)), None)))
        self.same(followed_by(ONE_TALK, no_end), (2, ((0, ((1, 0, 1),)), (0, ((1, 0, 2),)), (0, ((1, 0, 2),)))))

    def test_several_ends(self):
        script = (2, ((0, ((1, 0, 1), (1, 1, 2))), None, None))
        self.same(followed_by(script, ONE_TALK), (2, (
            (0, ((1, 0, 1), (1, 1, 2))), (0, ((1, 0, 4),)), (0, ((1, 0, 4),)), (0, ((1, 0, 4),)), None)))

    def test_chosen(self):
        self.same(chosen(0, 1, ONE_TALK, END), (2, ((0, ((1, 0, 1), (1, 1, 3))), (0, ((1, 0, 2),)), None, None)))
        self.same(chosen(3, 2, APART, (4, ((1, ((0, 5, 0),)),))), (4, (
            (3, ((2, 0, 1), (2, 1, 4))), (0, ((1, 0, 2),)), (2, ((3, 0, 3),)), None, (1, ((0, 5, 4),)))))
        self.same(chosen(1, 0, END, END), (2, ((1, ((0, 0, 1), (0, 1, 2))), None, None)))

    def test_unlike_numbers_of_actors(self):
        for one, other in [(END, (3, (None,))), ((4, (None,)), END), (TOLD, APART)]:
            self.raises(NotMade, {}, followed_by, one, other)
            self.raises(NotMade, {}, chosen, 0, 1, one, other)

    def test_one_actor_twice(self):
        for actor in (0, 1):
            self.raises(NotMade, {}, chosen, actor, actor, END, END)
        self.raises(NotMade, {}, chosen, 2, 2, TOLD, TOLD)

    def test_eight_scenes_and_nine(self):
        for many in range(1, 8):
            self.same(len(followed_by(ends(many), ends(8 - many))[1]), 8)
            self.raises(TooMany, {"most": 8}, followed_by, ends(many), ends(9 - many))
            self.raises(TooMany, {"most": 8}, chosen, 0, 1, ends(many), ends(8 - many))
        for many in range(1, 7):
            self.same(len(chosen(0, 1, ends(many), ends(7 - many))[1]), 8)
        self.raises(TooMany, {"most": 8}, followed_by, ends(8), ends(8))
        self.raises(TooMany, {"most": 8}, chosen, 0, 1, ends(8), ends(8))

    def test_not_made_stands_ahead_of_too_many(self):
        three = (3, (None,) * 8)
        self.raises(NotMade, {}, followed_by, ends(8), three)
        self.raises(NotMade, {}, chosen, 0, 1, ends(8), three)
        self.raises(NotMade, {}, chosen, 1, 1, ends(8), ends(8))

    def test_ways(self):
        scripts = [script for script in some_scripts(200, 96) + some_short_scripts(200, 97) if len(script[1]) < 4]
        tried = 0
        for one, other in zip(scripts, scripts[1:]):
            if one[0] == other[0]:
                both = followed_by(one, other)
                either = chosen(1, 0, one, other)
                for many in range(5):
                    whole = [way + later for first in range(many + 1) for way in whole_ways(one, first)
                             for later in whole_ways(other, many - first)]
                    self.same(whole_ways(both, many), sorted(whole))
                    self.same(whole_ways(either, many + 1), [((1, 0, 0),) + way for way in whole_ways(one, many)]
                              + [((1, 0, 1),) + way for way in whole_ways(other, many)])
                tried += 1
        self.assertGreater(tried, 20)


class RepeatTest(TalkCase):
    def test_repeated(self):
        self.same(repeated(ONE_TALK), (2, ((0, ((1, 0, 0),)), None)))
        self.same(repeated(ASKED), (2, ((0, ((1, 0, 1), (1, 1, 0))), (1, ((0, 2, 0),)), None)))
        self.same(repeated(TOLD), (3, TOLD[1][:1] + ((1, ((2, 0, 0),)), (1, ((2, 1, 0),)), None)))
        self.same(repeated((2, ((0, ((1, 0, 1), (1, 5, 3))), None, (1, ((0, 0, 1),)), None))),
                  (2, ((0, ((1, 0, 0), (1, 5, 0))), None, (1, ((0, 0, 0),)), None)))
        no_end = (2, ((0, ((1, 0, 1),)), (1, ((0, 0, 0),))))
        self.same(repeated(no_end), no_end)

    def test_scene_0_is_an_end(self):
        for script in (END, (4, (None,) * 8), (2, (None, (0, ((1, 0, 0),))))):
            self.raises(NotMade, {}, repeated, script)

    def test_no_end_comes(self):
        for script in some_scripts(80, 98) + some_short_scripts(40, 99):
            if script[1][0] is not None:
                found = repeated(script)
                self.same(end_scenes(found), ())
                self.same(has_rounds(found), True)
                self.assertLessEqual(len(reached_scenes(found)), len(reached_scenes(script)))


class PartTest(TalkCase):
    def test_with_part(self):
        cast = cast_of(TOLD)
        for actor in (0, 1, 2):
            found = with_part(cast, actor, DONE)
            self.same(found, cast[:actor] + (DONE,) + cast[actor + 1:])
        # Whom the steps of the part name does not matter.
        for part in (ANY, SAYS, ((True, (("say", 3, 0, 0),)),)):
            self.same(with_part((DONE, DONE), 1, part), (DONE, part))

    def test_without_event(self):
        self.same(without_event(ANY, 0, ("say", 1, 0)), (
            (False, (("hear", 0, 1, 0), ("hear", 2, 0, 1), ("say", 1, 5, 0))), (True, ())))
        self.same(without_event(ANY, 0, ("hear", 0, 1)), ((False, ANY[0][1][1:]), (True, ())))
        self.same(without_event(ANY, 0, ("say", 1, 5)), ((False, ANY[0][1][:3]), (True, ())))

    def test_a_states_last_step(self):
        self.same(without_event(SAYS, 0, ("say", 1, 0)), ((False, ()), (True, ())))
        self.same(without_event(((True, (("hear", 3, 5, 0),)),), 0, ("hear", 3, 5)), DONE)

    def test_no_such_step(self):
        for part, state, event in [(SAYS, 0, ("say", 1, 1)), (SAYS, 0, ("hear", 1, 0)), (SAYS, 0, ("say", 0, 0)),
                                   (SAYS, 1, ("say", 1, 0)), (DONE, 0, ("hear", 3, 5))]:
            self.raises(NotMade, {}, without_event, part, state, event)

    def test_plus_event(self):
        self.same(plus_event(SAYS, 0, ("say", 1, 1), 0), ((False, (("say", 1, 0, 1), ("say", 1, 1, 0))), (True, ())))
        self.same(plus_event(SAYS, 0, ("say", 0, 5), 1), ((False, (("say", 0, 5, 1), ("say", 1, 0, 1))), (True, ())))
        self.same(plus_event(SAYS, 0, ("hear", 3, 5), 1), ((False, (("hear", 3, 5, 1), ("say", 1, 0, 1))), (True, ())))
        self.same(plus_event(SAYS, 1, ("say", 1, 0), 0), (SAYS[0], (True, (("say", 1, 0, 0),))))
        self.same(plus_event(ANY, 0, ("hear", 1, 3), 1), (
            (False, ANY[0][1][:1] + (("hear", 1, 3, 1),) + ANY[0][1][1:]), (True, ())))

    def test_the_event_is_there(self):
        for there in (0, 1):
            self.raises(NotMade, {}, plus_event, SAYS, 0, ("say", 1, 0), there)

    def test_plus_and_without(self):
        for part in some_parts(60, 100):
            for state, (_, steps) in enumerate(part):
                for kind, other, word, there in steps:
                    less = without_event(part, state, (kind, other, word))
                    self.same(len(less[state][1]), len(steps) - 1)
                    self.same(plus_event(less, state, (kind, other, word), there), part)
                    self.raises(NotMade, {}, without_event, less, state, (kind, other, word))
                self.same(without_event(plus_event(part, state, ("say", 2, 3), 0), state, ("say", 2, 3)), part)

    def test_resting(self):
        self.same(resting(SAYS, 0, True), ((True, (("say", 1, 0, 1),)), (True, ())))
        self.same(resting(SAYS, 0, False), SAYS)
        self.same(resting(SAYS, 1, False), (SAYS[0], (False, ())))
        self.same(resting(SAYS, 1, True), SAYS)


if __name__ == "__main__":
    unittest.main()
