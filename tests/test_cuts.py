"""Points 9 and 10: the parts that are cut out of a script, and the sets of scenes of their states."""

import itertools
import unittest

from roletalks import cuts
from roletalks.cuts import cast_of, count_sets, cut, joined, mixed_states, scene_sets
from roletalks.parts import behind, runs, trimmed_part
from tests.support import TalkCase, some_scripts, some_short_scripts

ONE_END = (2, (None,))
ONE_TALK = (2, ((0, ((1, 0, 1),)), None))
TOLD = (3, ((0, ((1, 0, 1), (1, 1, 2))), (1, ((2, 0, 3),)), (1, ((2, 1, 3),)), None))
# Actor 2 is told something in one of two cases only; in the other one the end comes at once.
PERHAPS = (3, ((0, ((1, 0, 1), (1, 1, 2))), (1, ((2, 0, 3),)), None, None))
# Actors 0 and 1 talk for ever; actor 2 has no events, actor 3 one that never comes.
FOR_EVER = (4, ((0, ((1, 0, 1),)), (1, ((0, 5, 0),)), (3, ((2, 0, 2),))))
# Scenes 2 and 3 never come.
NEVER = (3, ((2, ((0, 1, 1),)), (0, ((2, 0, 0), (2, 1, 4))), (1, ((2, 0, 2),)), None, None))
# What comes first in the order of the events is the later scene.
BACK = (2, ((0, ((1, 0, 3), (1, 1, 1))), (1, ((0, 0, 2),)), None, (1, ((0, 1, 1),))))
# Others' talk leads back to scenes that come ahead of it, and to the end.
WAITS = (3, ((0, ((1, 0, 1), (2, 3, 2))), (1, ((0, 0, 0), (0, 1, 3))), (2, ((0, 0, 0),)), None))
# Actor 1 may hear and say in the first state.
MIXED = (3, ((0, ((1, 0, 1), (2, 0, 2))), (2, ((1, 0, 3),)), (1, ((2, 0, 3),)), None))
# A line of eight scenes: the actors speak in turn, the last one in scenes 3 only.
LONG = (4, tuple([(at % 4, (((at + 1) % 4, at % 6, at + 1),)) for at in range(7)]) + (None,))
# Actor 2 has 56 states.
MANY_SETS = (3, (
    (2, ((0, 0, 6), (0, 1, 5), (1, 0, 1))), (0, ((1, 0, 7), (1, 1, 3), (2, 0, 2), (2, 1, 6))), (0, ((1, 1, 4),)),
    (2, ((0, 0, 2), (1, 0, 7))), (2, ((0, 0, 7), (0, 1, 1), (1, 0, 6), (1, 1, 6))),
    (2, ((0, 0, 7), (0, 1, 4), (1, 0, 5), (1, 1, 3))), (2, ((0, 0, 0), (0, 1, 2), (1, 0, 0), (1, 1, 0))),
    (2, ((0, 0, 3), (0, 1, 7), (1, 0, 5), (1, 1, 1)))))
ALL = [ONE_END, ONE_TALK, TOLD, PERHAPS, FOR_EVER, NEVER, BACK, WAITS, MIXED, LONG, MANY_SETS] + some_scripts(80, 11)

INTERFACE = {
    "joined": ["script", "scene", "actor"], "scene_sets": ["script", "actor"], "count_sets": ["script"],
    "mixed_states": ["script", "actor"], "cut": ["script", "actor"], "cast_of": ["script"],
}


def branches(script, scene):
    """The branches of a scene as talks, each with its next scene."""
    if script[1][scene] is None:
        return []
    return [((script[1][scene][0],) + branch[:2], branch[2]) for branch in script[1][scene][1]]


def seen(talk, actor):
    """The event that a talk is for an actor, None for others' talk."""
    return {talk[0]: ("say", talk[1], talk[2]), talk[1]: ("hear", talk[0], talk[2])}.get(actor)


def scenes_behind(script, scene, actor, events):
    """The scenes that rows of talks lead to of which the actor sees just these events, in any number of talks."""
    found = {(scene, 0)}
    while True:
        more = set(found)
        for there, done in found:
            for talk, then in branches(script, there):
                event = seen(talk, actor)
                if event is None:
                    more.add((then, done))
                elif events[done:done + 1] == (event,):
                    more.add((then, done + 1))
        if more == found:
            return tuple(sorted([there for there, done in found if done == len(events)]))
        found = more


def all_events(script, actor):
    """All events of an actor in a script, in scenes that come or not."""
    found = {seen(talk, actor) for scene in range(len(script[1])) for talk, _ in branches(script, scene)}
    return sorted(found - {None})


class InterfaceTest(TalkCase):
    def test_names_and_arguments(self):
        self.defines(cuts, INTERFACE)


class JoinedTest(TalkCase):
    def test_others_talk_is_followed(self):
        self.same(joined(TOLD, 0, 2), (0, 1, 2))
        self.same(joined(WAITS, 0, 2), (0, 1, 3))
        self.same(joined(WAITS, 1, 2), (0, 1, 3))
        self.same(joined(FOR_EVER, 1, 3), (0, 1))

    def test_the_actors_own_talk_is_not_followed(self):
        self.same(joined(TOLD, 0, 0), (0,))
        self.same(joined(TOLD, 0, 1), (0,))
        self.same(joined(TOLD, 1, 2), (1,))
        self.same(joined(WAITS, 0, 1), (0, 2))
        self.same(joined(WAITS, 0, 0), (0,))

    def test_an_end_and_scenes_that_never_come(self):
        self.same(joined(ONE_END, 0, 1), (0,))
        self.same(joined(LONG, 7, 3), (7,))
        self.same(joined(NEVER, 2, 0), (2,))
        self.same(joined(NEVER, 3, 1), (3,))
        self.same(joined(FOR_EVER, 2, 0), (2,))

    def test_the_first_and_the_last_actor_and_scene(self):
        self.same(joined(LONG, 0, 0), (0,))
        self.same(joined(LONG, 0, 3), (0, 1, 2))
        self.same(joined(LONG, 4, 3), (4, 5, 6))
        self.same(joined(LONG, 1, 0), (1, 2, 3))

    def test_all_against_the_words_of_the_document(self):
        for script in ALL:
            for actor in range(script[0]):
                for scene in range(len(script[1])):
                    self.same(joined(script, scene, actor), scenes_behind(script, scene, actor, ()), script)


class CutTest(TalkCase):
    def test_one_talk(self):
        self.same(cut(ONE_TALK, 0), ((False, (("say", 1, 0, 1),)), (True, ())))
        self.same(cut(ONE_TALK, 1), ((False, (("hear", 0, 0, 1),)), (True, ())))

    def test_no_talk(self):
        self.same(cut(ONE_END, 0), ((True, ()),))
        self.same(cut((4, ((3, ((1, 0, 1),)), None)), 2), ((True, ()),))
        self.same(cut((4, (None,) * 8), 3), ((True, ()),))

    def test_an_actor_who_speaks_and_hears(self):
        self.same(cut(TOLD, 1), ((False, (("hear", 0, 0, 1), ("hear", 0, 1, 2))), (False, (("say", 2, 0, 3),)),
                                 (False, (("say", 2, 1, 3),)), (True, ())))

    def test_a_state_may_rest_if_an_end_is_in_its_set(self):
        self.same(cut(PERHAPS, 2), ((True, (("hear", 1, 0, 1),)), (True, ())))
        self.same(cut(WAITS, 2), ((True, (("hear", 0, 3, 1),)), (False, (("say", 0, 0, 0),))))
        self.same(cut(TOLD, 2), ((False, (("hear", 1, 0, 1), ("hear", 1, 1, 1))), (True, ())))

    def test_a_state_may_rest_if_it_has_no_events(self):
        self.same(cut(FOR_EVER, 2), ((True, ()),))
        self.same(cut(FOR_EVER, 3), ((True, ()),))
        self.same(cut(FOR_EVER, 0), ((False, (("say", 1, 0, 1),)), (False, (("hear", 1, 5, 0),))))
        self.same(cut((3, ((2, ((0, 0, 1),)), (0, ((1, 0, 1),)))), 2), ((False, (("say", 0, 0, 1),)), (True, ())))

    def test_states_are_named_in_the_order_of_their_coming(self):
        self.same(cut(BACK, 0), ((False, (("say", 1, 0, 1), ("say", 1, 1, 2))), (False, (("hear", 1, 1, 2),)),
                                 (False, (("hear", 1, 0, 3),)), (True, ())))

    def test_branches_with_one_event_lead_to_one_state(self):
        script = (3, ((0, ((1, 0, 1), (1, 1, 2))), (2, ((1, 0, 3),)), (2, ((1, 0, 4),)), None, (2, ((0, 0, 3),))))
        self.same(cut(script, 2), ((False, (("say", 1, 0, 1),)), (True, (("say", 0, 0, 2),)), (True, ())))
        self.same(scene_sets(script, 2), ((0, 1, 2), (3, 4), (3,)))

    def test_cast_of(self):
        self.same(cast_of(ONE_END), (((True, ()),), ((True, ()),)))
        self.same(cast_of(MIXED), (
            ((False, (("say", 1, 0, 1), ("say", 2, 0, 2))), (True, ()), (True, ())),
            ((False, (("hear", 0, 0, 1), ("say", 2, 0, 2))), (False, (("hear", 2, 0, 2),)), (True, ())),
            ((False, (("hear", 0, 0, 1), ("say", 1, 0, 2))), (False, (("hear", 1, 0, 2),)), (True, ()))))
        for script in ALL:
            self.same(cast_of(script), tuple([cut(script, actor) for actor in range(script[0])]), script)

    def test_all_against_the_words_of_the_document(self):
        for script in ALL:
            for actor in range(script[0]):
                self.check_cut(script, actor)

    def check_cut(self, script, actor):
        """The sets, the rest and the steps of all states are told by the scenes behind rows of events."""
        part = cut(script, actor)
        sets = scene_sets(script, actor)
        self.same(len(set(sets)), len(part), script)
        self.same(sets[0], scenes_behind(script, 0, actor, ()), script)
        self.same(trimmed_part(part), part, script)
        for (rest, steps), scenes in zip(part, sets):
            told = [seen(talk, actor) for scene in scenes for talk, _ in branches(script, scene)]
            self.same([step[:3] for step in steps], sorted(set(told) - {None}), script)
            self.same(rest, None in [script[1][scene] for scene in scenes] or not steps, script)
            for kind, other, word, there in steps:
                after = [scenes_behind(script, scene, actor, ((kind, other, word),)) for scene in scenes]
                self.same(sets[there], tuple(sorted(set().union(*after))), script)

    def test_runs_of_a_part_are_what_the_actor_sees_of_ways(self):
        for script in ALL[:8] + some_scripts(30, 12):
            for actor in range(script[0]):
                self.check_runs(script, actor)

    def check_runs(self, script, actor):
        part = cut(script, actor)
        sets = scene_sets(script, actor)
        for many in range(3):
            found = []
            for row in itertools.product(all_events(script, actor), repeat=many):
                scenes = scenes_behind(script, 0, actor, row)
                if scenes:
                    found.append(row)
                    self.same(scenes, sets[behind(part, row)], script)
            self.same(runs(part, many), found, script)


class SetsTest(TalkCase):
    def test_scene_sets(self):
        self.same(scene_sets(ONE_END, 1), ((0,),))
        self.same(scene_sets(TOLD, 0), ((0,), (1, 3), (2, 3)))
        self.same(scene_sets(TOLD, 1), ((0,), (1,), (2,), (3,)))
        self.same(scene_sets(TOLD, 2), ((0, 1, 2), (3,)))
        self.same(scene_sets(WAITS, 2), ((0, 1, 3), (2,)))
        self.same(scene_sets(BACK, 1), ((0,), (3,), (1,), (2,)))
        self.same(scene_sets(FOR_EVER, 3), ((0, 1),))

    def test_scenes_that_never_come_are_in_no_set(self):
        self.same(scene_sets(NEVER, 1), ((0, 1, 4),))
        self.same(scene_sets(NEVER, 0), ((0,), (1,), (4,)))

    def test_others_talk_behind_an_event_is_followed(self):
        self.same(scene_sets(LONG, 3), ((0, 1, 2), (3,), (4, 5, 6), (7,)))
        self.same(scene_sets(LONG, 0), ((0,), (1, 2, 3), (4,), (5, 6, 7)))

    def test_count_sets(self):
        self.same(count_sets(ONE_END), (1, 1))
        self.same(count_sets(TOLD), (3, 4, 2))
        self.same(count_sets(FOR_EVER), (2, 2, 1, 1))
        self.same(count_sets(LONG), (4, 5, 5, 4))
        self.same(count_sets(MANY_SETS)[2], 56)
        for script in ALL:
            self.same(count_sets(script), tuple([len(cut(script, actor)) for actor in range(script[0])]), script)

    def test_mixed_states(self):
        self.same(mixed_states(MIXED, 0), ())
        self.same(mixed_states(MIXED, 1), (0,))
        self.same(mixed_states(MIXED, 2), (0,))
        self.same(mixed_states(ONE_END, 0), ())
        self.same(mixed_states(TOLD, 1), ())
        self.same(mixed_states(WAITS, 2), ())

    def test_all_mixed_states_are_told(self):
        found = []
        for script in ALL:
            for actor in range(script[0]):
                kinds = [{step[0] for step in steps} for _, steps in cut(script, actor)]
                found.append(mixed_states(script, actor))
                self.same(found[-1], tuple([at for at in range(len(kinds)) if len(kinds[at]) == 2]), script)
        self.assertGreater(max([len(states) for states in found]), 1)


class SameCallTest(TalkCase):
    def test_arguments_stay_and_answers_too(self):
        for script in ALL + some_short_scripts(20, 13):
            before = repr(script)
            for actor in range(script[0]):
                for function in (cut, scene_sets, mixed_states):
                    self.same(function(script, actor), function(script, actor))
            self.same(cast_of(script), cast_of(script))
            self.assertEqual(repr(script), before)


if __name__ == "__main__":
    unittest.main()
