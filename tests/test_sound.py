"""Points 11 to 13: what cannot be said, first letters, what may be heard too early, and faults."""

import unittest

from roletalks import sound
from roletalks.cuts import cut, joined, mixed_states, scene_sets
from roletalks.sound import bad_hears, bad_says, fault, first_letters, is_sound
from tests.support import TalkCase, some_scripts, some_short_scripts

ONE_END = (2, (None,))
ONE_TALK = (2, ((0, ((1, 0, 1),)), None))
ASKED = (2, ((0, ((1, 0, 1), (1, 1, 2))), (1, ((0, 2, 0),)), None))
TOLD = (3, ((0, ((1, 0, 1), (1, 1, 2))), (1, ((2, 0, 3),)), (1, ((2, 1, 3),)), None))
# Actor 2 has to say what it was not told.
UNTOLD = (3, ((0, ((1, 0, 1), (1, 1, 2))), (2, ((1, 0, 3),)), (2, ((1, 1, 3),)), None))
MIXED = (3, ((0, ((1, 0, 1), (2, 0, 2))), (2, ((1, 0, 3),)), (1, ((2, 0, 3),)), None))
# Actor 2 hears of 0 and 1 in one order or in the other one, and cannot tell which it is.
RACE = (3, ((0, ((1, 0, 1), (1, 1, 2))), (0, ((2, 0, 3),)), (1, ((2, 0, 4),)), (1, ((2, 0, 5),)), (0, ((2, 0, 5),)),
            None))
# The same, but actor 1 speaks only when it was told so by actor 2.
ORDERED = (3, ((0, ((1, 0, 1), (1, 1, 2))), (0, ((2, 0, 3),)), (1, ((2, 0, 4),)), (2, ((1, 0, 5),)), (2, ((0, 0, 6),)),
               (1, ((2, 0, 7),)), (0, ((2, 0, 7),)), None))
# Actor 2 does not know whether the end is there.
PERHAPS = (3, ((0, ((1, 0, 1), (1, 1, 2))), (2, ((1, 0, 2),)), None))
# Actors 0 and 1 go round as long as they like, and tell 2 only then.
ROUND = (3, ((0, ((1, 0, 1), (1, 1, 2))), (1, ((0, 0, 0),)), (1, ((2, 5, 3),)), None))
# A line of eight scenes, the last one the end.
LONG = (4, tuple([(at % 4, (((at + 1) % 4, at % 6, at + 1),)) for at in range(7)]) + (None,))
BY_HAND = [ONE_END, ONE_TALK, ASKED, TOLD, UNTOLD, MIXED, RACE, ORDERED, PERHAPS, ROUND, LONG]
# Few branches, for all rows of talks are tried.
FEW = [script for script in some_scripts(250, 21)
       if max([len(scene[1]) for scene in script[1] if scene is not None], default=0) < 3]
ALL = BY_HAND + FEW[:60] + some_short_scripts(150, 22)

INTERFACE = {
    "bad_says": ["script", "actor"], "first_letters": ["script", "scene", "actor"], "bad_hears": ["script", "actor"],
    "fault": ["script"], "is_sound": ["script"],
}


def rows_from(script, scene, many):
    """The rows of at most many talks that the script can have from a scene on and that cannot be longer then."""
    if script[1][scene] is None or many == 0:
        return [()]
    speaker, branches = script[1][scene]
    return [((speaker, hearer, word),) + row for hearer, word, there in branches
            for row in rows_from(script, there, many - 1)]


def letters_on(row, actor):
    """The first letters to an actor who keeps still that there are on one row of talks."""
    still = {actor}
    free = []
    for speaker, hearer, _ in row:
        free.append(speaker not in still)
        if speaker in still:
            still.add(hearer)
    pairs = set()
    for one in range(4):
        told = [at for at in range(len(row)) if row[at][:2] == (one, actor)]
        if told and free[told[0]]:
            pairs.add((one, row[told[0]][2]))
    return pairs


def letters(script, scene, actor):
    """The first letters by trying all rows; rows longer than the number of scenes show no more of them."""
    rows = rows_from(script, scene, len(script[1]) + 1)
    return tuple(sorted(set().union(*[letters_on(row, actor) for row in rows])))


def says_of(script, scenes, actor):
    """The events that an actor can say in one of some scenes."""
    return {("say",) + branch[:2] for scene in scenes if script[1][scene] is not None
            and script[1][scene][0] == actor for branch in script[1][scene][1]}


def wrong_says(script, actor):
    """What cannot be said in all scenes of its set."""
    found = []
    for state, scenes in enumerate(scene_sets(script, actor)):
        for event in sorted(says_of(script, scenes, actor)):
            if any(event not in says_of(script, joined(script, scene, actor), actor) for scene in scenes):
                found.append((state,) + event[1:])
    return tuple(found)


def wrong_hears(script, actor):
    """The pairs of hear-events of which the first one may come too early."""
    sets = scene_sets(script, actor)
    found = set()
    for state, (_, steps) in enumerate(cut(script, actor)):
        heard = [step[1:] for step in steps if step[0] == "hear"]
        for one in heard:
            for other in heard:
                early = set().union(*[letters(script, scene, actor) for scene in sets[other[2]]])
                if one[0] != other[0] and one[:2] in early:
                    found.add((state,) + one[:2] + other[:2])
    return tuple(sorted(found))


class InterfaceTest(TalkCase):
    def test_names_and_arguments(self):
        self.defines(sound, INTERFACE)


class SayTest(TalkCase):
    def test_what_is_not_told_cannot_be_said(self):
        self.same(bad_says(UNTOLD, 2), ((0, 1, 0), (0, 1, 1)))
        self.same(bad_says(UNTOLD, 0), ())
        self.same(bad_says(UNTOLD, 1), ())

    def test_an_end_in_the_set_does_not_let_it_say(self):
        self.same(bad_says(PERHAPS, 2), ((0, 1, 0),))

    def test_what_follows_others_talk_can_be_said(self):
        self.same(bad_says((3, ((0, ((1, 0, 1), (1, 1, 2))), (1, ((0, 0, 2),)), (2, ((0, 3, 3),)), None)), 2), ())
        self.same(bad_says(ROUND, 1), ())

    def test_endless_talk_of_others_does_not_let_it_say(self):
        script = (3, ((0, ((1, 0, 1), (1, 1, 2))), (0, ((1, 0, 1),)), (2, ((0, 3, 3),)), None))
        self.same(bad_says(script, 2), ((0, 0, 3),))

    def test_one_word_for_each_hearer_and_later_states(self):
        script = (3, ((2, ((0, 5, 1),)), (0, ((1, 0, 2), (1, 1, 3))), (2, ((0, 0, 4), (1, 0, 4), (1, 5, 4))),
                      (2, ((0, 0, 4), (1, 5, 4))), None))
        self.same(bad_says(script, 2), ((1, 1, 0),))

    def test_who_does_not_speak(self):
        self.same(bad_says(ONE_END, 0), ())
        self.same(bad_says(ONE_TALK, 1), ())
        self.same(bad_says(TOLD, 2), ())
        self.same(bad_says(LONG, 3), ())

    def test_all_against_the_words_of_the_document(self):
        found = []
        for script in ALL:
            for actor in range(script[0]):
                found.append(wrong_says(script, actor))
                self.same(bad_says(script, actor), found[-1], script)
        self.assertGreater(len([rows for rows in found if len(rows) > 1]), 10)


class LetterTest(TalkCase):
    def test_the_words_of_the_next_talk(self):
        self.same(first_letters(ONE_TALK, 0, 1), ((0, 0),))
        self.same(first_letters(ASKED, 0, 1), ((0, 0), (0, 1)))
        self.same(first_letters(TOLD, 0, 1), ((0, 0), (0, 1)))
        self.same(first_letters(TOLD, 2, 2), ((1, 1),))
        self.same(first_letters(LONG, 0, 3), ((2, 2),))

    def test_no_letters(self):
        self.same(first_letters(ONE_END, 0, 0), ())
        self.same(first_letters(ONE_TALK, 0, 0), ())
        self.same(first_letters(ONE_TALK, 1, 1), ())
        self.same(first_letters(LONG, 7, 0), ())

    def test_who_is_told_by_one_who_keeps_still_keeps_still(self):
        self.same(first_letters(ASKED, 0, 0), ())
        self.same(first_letters(TOLD, 0, 0), ())
        self.same(first_letters(LONG, 0, 0), ())
        self.same(first_letters(LONG, 1, 0), ((3, 3),))
        self.same(first_letters(ORDERED, 3, 2), ())
        self.same(first_letters(RACE, 3, 2), ((1, 0),))

    def test_who_is_told_by_others_goes_on(self):
        script = (3, ((1, ((2, 0, 1),)), (2, ((0, 4, 2),)), None))
        self.same(first_letters(script, 0, 0), ((2, 4),))

    def test_keeping_still_may_differ_by_the_row(self):
        script = (3, ((0, ((1, 0, 1), (2, 0, 2))), (2, ((0, 1, 3),)), (2, ((0, 2, 3),)), None))
        self.same(first_letters(script, 0, 0), ((2, 1),))

    def test_one_who_keeps_still_later_has_told_before(self):
        script = (2, ((1, ((0, 3, 1),)), (0, ((1, 0, 2),)), (1, ((0, 4, 3),)), None))
        self.same(first_letters(script, 0, 0), ((1, 3),))
        self.same(first_letters(script, 1, 0), ())
        self.same(first_letters(script, 2, 0), ((1, 4),))

    def test_only_the_first_talk_of_each_speaker(self):
        script = (3, ((0, ((2, 3, 1),)), (0, ((2, 4, 2),)), (1, ((2, 5, 3),)), (0, ((1, 0, 4),)), (1, ((2, 0, 5),)), None))
        self.same(first_letters(script, 0, 2), ((0, 3), (1, 5)))
        self.same(first_letters(script, 1, 2), ((0, 4), (1, 5)))
        self.same(first_letters(script, 3, 2), ((1, 0),))

    def test_rounds(self):
        self.same(first_letters(ROUND, 0, 2), ((1, 5),))
        self.same(first_letters(ROUND, 1, 0), ((1, 0),))
        self.same(first_letters((2, ((0, ((1, 0, 1),)), (0, ((1, 1, 0),)))), 1, 1), ((0, 1),))

    def test_a_scene_that_never_comes(self):
        self.same(first_letters((2, (None, (1, ((0, 5, 0),)))), 1, 0), ((1, 5),))

    def test_all_against_the_words_of_the_document(self):
        for script in ALL:
            for actor in range(script[0]):
                for scene in range(len(script[1])):
                    self.same(first_letters(script, scene, actor), letters(script, scene, actor), script)


class HearTest(TalkCase):
    def test_a_letter_that_may_be_there_too_early(self):
        self.same(bad_hears(RACE, 2), ((0, 0, 0, 1, 0), (0, 1, 0, 0, 0)))
        self.same(bad_hears(RACE, 0), ())
        self.same(bad_hears(RACE, 1), ())

    def test_a_letter_that_waits_for_the_actor(self):
        self.same(bad_hears(ORDERED, 2), ())

    def test_one_order_may_be_bad_alone(self):
        script = (3, ((0, ((1, 0, 1), (1, 1, 2))), (0, ((2, 0, 3),)), (1, ((2, 0, 4),)), (1, ((2, 0, 4),)), None))
        self.same(bad_hears(script, 2), ((0, 1, 0, 0, 0),))

    def test_another_word_does_no_harm(self):
        script = (3, ((0, ((1, 0, 1), (1, 1, 2))), (0, ((2, 0, 3),)), (1, ((2, 0, 4),)), (1, ((2, 1, 4),)), None))
        self.same(bad_hears(script, 2), ())

    def test_words_of_one_speaker_do_no_harm(self):
        script = (2, ((0, ((1, 0, 1), (1, 1, 2))), (0, ((1, 1, 3),)), (0, ((1, 0, 3),)), None))
        self.same(bad_hears(script, 1), ())
        self.same(is_sound(script), True)

    def test_a_later_state(self):
        script = (3, ((2, ((0, 5, 1),)),) + tuple([
            None if scene is None else (scene[0], tuple([(hearer, word, there + 1) for hearer, word, there in scene[1]]))
            for scene in RACE[1]]))
        self.same(bad_hears(script, 2), ((1, 0, 0, 1, 0), (1, 1, 0, 0, 0)))

    def test_all_against_the_words_of_the_document(self):
        found = []
        for script in ALL:
            for actor in range(script[0]):
                found.append(wrong_hears(script, actor))
                self.same(bad_hears(script, actor), found[-1], script)
        self.assertGreater(len([rows for rows in found if rows]), 10)


class FaultTest(TalkCase):
    def test_sound_scripts(self):
        for script in (ONE_END, ONE_TALK, ASKED, TOLD, ORDERED, ROUND, LONG, (4, (None,) * 8)):
            self.same(fault(script), None)
            self.same(is_sound(script), True)

    def test_each_kind(self):
        for script, expected in [(MIXED, (1, "mixed")), (UNTOLD, (2, "say")), (PERHAPS, (2, "say")),
                                 (RACE, (2, "hear"))]:
            self.same(fault(script), expected)
            self.same(is_sound(script), False)

    def test_the_least_actor_is_told_whatever_its_kind(self):
        # Actor 0 has two bad hears, actor 1 says what it does not know, both by what actor 2 does.
        script = (3, ((2, ((1, 0, 1), (1, 1, 2))), (2, ((0, 0, 3),)), (1, ((0, 0, 4),)), (1, ((0, 0, 5),)),
                      (2, ((0, 0, 6),)), (2, ((0, 5, 7),)), (1, ((0, 5, 7),)), None))
        self.same(bad_hears(script, 0), ((0, 1, 0, 2, 0), (0, 2, 0, 1, 0)))
        self.same(fault(script), (0, "hear"))
        # Actor 1 says what it does not know, and actor 2 may hear and say later on.
        other = (3, ((0, ((2, 0, 1), (2, 1, 2))), (1, ((2, 0, 3),)), (1, ((2, 1, 3),)), (0, ((1, 0, 4), (2, 0, 5))),
                     (2, ((1, 0, 5),)), None))
        self.same(len(mixed_states(other, 2)), 1)
        self.same(fault(other), (1, "say"))

    def test_the_first_kind_of_an_actor_is_told(self):
        mixed = (3, ((0, ((1, 0, 1), (2, 0, 2), (2, 1, 3))), (2, ((1, 1, 3),)), (1, ((2, 1, 3),)), None))
        self.same(bad_says(mixed, 1), ((0, 2, 1),))
        self.same(fault(mixed), (1, "mixed"))

    def test_all_against_the_words_of_the_document(self):
        found = []
        for script in ALL:
            kinds = [(actor, kind) for actor in range(script[0]) for kind, bad in (
                ("mixed", mixed_states(script, actor)), ("say", wrong_says(script, actor)),
                ("hear", wrong_hears(script, actor))) if bad]
            found.append((kinds + [None])[0])
            self.same(fault(script), found[-1], script)
            self.same(is_sound(script), found[-1] is None, script)
        told = [one[1] for one in found if one is not None]
        self.assertGreater(min([told.count(kind) for kind in ("mixed", "say", "hear")]), 3)
        self.assertGreater(found.count(None), 20)


if __name__ == "__main__":
    unittest.main()
