"""Points 30 and 31: scripts rebuilt out of casts, and scripts that are alike; with their wrong arguments."""

import unittest

from roletalks import rebuilding as module
from roletalks.cuts import cast_of
from roletalks.errors import BadCast, BadNumber, BadScript, NotMade, TooMany
from roletalks.parts import is_plain, same_parts
from roletalks.rebuilding import are_alike, ready_actors, rebuilt, unlike_actors
from roletalks.scripts import has_rounds, trimmed
from roletalks.sound import is_sound
from tests import test_parts_wrong, test_scripts_wrong, test_stage_wrong
from tests.support import ODD, TalkCase, some_casts, some_scripts, some_short_scripts

DONE = ((True, ()),)
ONE_TALK = (2, ((0, ((1, 0, 1),)), None))
ASKED = (2, ((0, ((1, 0, 1), (1, 1, 2))), (1, ((0, 2, 0),)), None))
TOLD = (3, ((0, ((1, 0, 1), (1, 1, 2))), (1, ((2, 0, 3),)), (1, ((2, 1, 3),)), None))
GUESSED = (3, ((0, ((1, 0, 1), (1, 1, 2))), (2, ((1, 0, 3),)), (2, ((1, 1, 3),)), None))
# Both talks may be first.
APART = (4, ((2, ((3, 0, 1),)), (0, ((1, 0, 2),)), None))
SAYS = ((False, (("say", 1, 0, 1),)), (True, ()))
HEARS = ((False, (("hear", 0, 0, 1),)), (True, ()))
NOT_PLAIN = ((False, (("say", 1, 0, 1),)), (False, ()))
MIXED = (False, (("hear", 0, 0, 0), ("say", 0, 1, 0)))
# Parts that wait for one another, so that nobody is ready.
WAITS = (((False, (("hear", 1, 0, 1),)), (True, ())), ((False, (("hear", 0, 0, 1),)), (True, ())))

INTERFACE = {
    "rebuilt": ["cast"], "ready_actors": ["cast", "states"], "unlike_actors": ["one", "other"],
    "are_alike": ["one", "other"],
}


def line(many, last=(True, ())):
    """A cast of many talks, one behind the other; then both parts are in a last state."""
    return (tuple([(False, (("say", 1, 0, at + 1),)) for at in range(many)]) + (last,),
            tuple([(False, (("hear", 0, 0, at + 1),)) for at in range(many)]) + ((True, ()),))


# A state in which actor 0 waits for a word that is never said.
STUCK = (False, (("hear", 1, 5, 0),))


def fan(many, stuck=()):
    """A cast in which actor 0 says one of many words of its 12; behind some of them it is stuck."""
    words = [(hearer, word) for hearer in (1, 2) for word in range(6)][:many]
    heard = [(True, tuple([("hear", 0, word, word + 1) for word in range(6)]))]
    hears = tuple(heard + [(True, ())] * 6)
    says = (False, tuple([("say",) + words[at] + (at + 1,) for at in range(many)]))
    return (says,) + tuple([STUCK if at in stuck else (True, ()) for at in range(many)]), hears, hears


def is_ready(cast, states, actor):
    """What point 30 says of an actor, word by word."""
    said = [step for step in cast[actor][states[actor]][1] if step[0] == "say"]
    heard = [step for step in cast[actor][states[actor]][1] if step[0] == "hear"]
    if not said or heard:
        return False
    for _, hearer, word, _ in said:
        if ("hear", actor, word) not in [step[:3] for step in cast[hearer][states[hearer]][1]]:
            return False
    return True


def behind(cast, states, speaker, step):
    """The states behind a word that a speaker says and its hearer hears at once."""
    _, hearer, word, there = step
    heard = [one[3] for one in cast[hearer][states[hearer]][1] if one[:3] == ("hear", speaker, word)]
    return tuple([there if at == speaker else heard[0] if at == hearer else state for at, state in enumerate(states)])


def rebuilt_by_the_words(cast):
    """The script, "not made", or "too many"."""
    order = [(0,) * len(cast)]
    scenes = []
    for states in order:
        if len(scenes) == 9:
            return "too many"
        ready = [actor for actor in range(len(cast)) if is_ready(cast, states, actor)]
        if ready:
            branches = []
            for step in cast[ready[0]][states[ready[0]]][1]:
                there = behind(cast, states, ready[0], step)
                if there not in order:
                    order.append(there)
                branches.append((step[1], step[2], order.index(there)))
            scenes.append((ready[0], tuple(branches)))
        elif all([part[state][0] for part, state in zip(cast, states)]):
            scenes.append(None)
        else:
            return "not made"
    return "too many" if len(scenes) == 9 else (len(cast), tuple(scenes))


class InterfaceTest(TalkCase):
    def test_names_and_arguments(self):
        self.defines(module, INTERFACE)


class ReadyTest(TalkCase):
    def test_who_is_heard_is_ready(self):
        self.same(ready_actors(cast_of(TOLD), (0, 0, 0)), (0,))
        self.same(ready_actors(cast_of(TOLD), (1, 1, 0)), (1,))
        self.same(ready_actors(cast_of(TOLD), (1, 0, 0)), ())
        self.same(ready_actors(cast_of(TOLD), (1, 3, 1)), ())
        self.same(ready_actors(cast_of(APART), (0, 0, 0, 0)), (0, 2))
        self.same(ready_actors(cast_of(APART), (0, 0, 1, 1)), (0,))
        self.same(ready_actors((DONE,) * 4, (0, 0, 0, 0)), ())
        self.same(ready_actors(WAITS, (0, 0)), ())

    def test_all_that_may_be_said_has_to_be_heard(self):
        asks = ((False, (("say", 1, 0, 1), ("say", 1, 1, 1))), (True, ()))
        self.same(ready_actors((asks, HEARS), (0, 0)), ())
        self.same(ready_actors((asks, ((False, (("hear", 0, 0, 1), ("hear", 0, 1, 1))), (True, ()))), (0, 0)), (0,))
        both = ((False, (("say", 1, 0, 1), ("say", 2, 0, 1))), (True, ()))
        self.same(ready_actors((both, HEARS, DONE), (0, 0, 0)), ())
        self.same(ready_actors((both, HEARS, HEARS), (0, 0, 0)), (0,))
        self.same(ready_actors((both, HEARS, HEARS), (0, 0, 1)), ())

    def test_it_is_heard_by_those_to_whom_it_is_said(self):
        self.same(ready_actors((SAYS, ((False, (("hear", 2, 0, 0),)),), HEARS), (0, 0, 0)), ())
        self.same(ready_actors((SAYS, ((False, (("hear", 0, 1, 0),)),)), (0, 0)), ())

    def test_who_hears_something_is_not_ready(self):
        # The states that come are plain; the last one is asked for nevertheless.
        mixed = DONE + ((False, (("hear", 1, 0, 0), ("say", 1, 1, 0))),)
        hears = ((True, (("hear", 0, 1, 0),)),)
        self.same(ready_actors((mixed, hears), (1, 0)), ())
        self.same(ready_actors((DONE + ((False, (("say", 1, 1, 0),)),), hears), (1, 0)), (0,))
        self.same(ready_actors((DONE + ((True, (("say", 1, 1, 0),)),), hears), (1, 0)), (0,))

    def test_wrong_states(self):
        cast = (SAYS, HEARS)
        for states in [value for value in ODD if not isinstance(value, tuple)] + [
                (), (0,), (0, 0, 0), [0, 0], (0, 2), (2, 0), (-1, 0), (0, -1), (True, 0), (0, False), (None, 0), (0, "0"),
                ((0,), 0), {0: 0}, "00"]:
            self.raises(BadNumber, {}, ready_actors, cast, states)
        for states in ((0, 0), (1, 1), (0, 1)):
            ready_actors(cast, states)
        self.same(ready_actors((DONE * 255, DONE), (254, 0)), ())
        self.raises(BadNumber, {}, ready_actors, (DONE * 255, DONE), (255, 0))

    def test_parts_that_are_not_plain(self):
        for cast in [(NOT_PLAIN, HEARS), (DONE, (MIXED,)), (SAYS, ((True, (("say", 0, 0, 0),)),))]:
            self.raises(NotMade, {}, ready_actors, cast, (0, 0))
            self.raises(NotMade, {}, rebuilt, cast)

    def test_parts_that_are_not_plain_though_all_could_be_said(self):
        says_or_rests = ((True, (("say", 1, 0, 1),)), (True, ()))
        self.raises(NotMade, {}, rebuilt, (says_or_rests, HEARS))
        self.raises(NotMade, {}, ready_actors, (says_or_rests, HEARS), (0, 0))
        # NotMade stands ahead of TooMany.
        one, other = line(9)
        self.raises(NotMade, {}, rebuilt, (((True, one[0][1]),) + one[1:], other))
        self.raises(NotMade, {}, rebuilt, (one, other[:9] + (((False, ()),))))

    def test_the_order(self):
        self.raises(BadCast, {"index": None}, ready_actors, None, None)
        self.raises(BadCast, {"index": 1}, ready_actors, (SAYS, SAYS), (7,))
        self.raises(BadNumber, {}, ready_actors, (NOT_PLAIN, HEARS), (0,))
        self.raises(BadNumber, {}, ready_actors, (NOT_PLAIN, HEARS), (0, 2))

    def test_all_against_the_words_of_the_document(self):
        seen = [0, 0]
        for cast in some_casts(200, 81) + [cast_of(script) for script in some_scripts(40, 82)]:
            if all([is_plain(part) for part in cast]):
                for at in range(6):
                    states = tuple([at * (actor + 1) % len(part) for actor, part in enumerate(cast)])
                    ready = tuple([actor for actor in range(len(cast)) if is_ready(cast, states, actor)])
                    self.same(ready_actors(cast, states), ready, (cast, states))
                    seen[len(ready) > 0] += 1
        self.assertGreater(min(seen), 20)


class RebuiltTest(TalkCase):
    def test_scripts(self):
        self.same(rebuilt(cast_of(ONE_TALK)), ONE_TALK)
        self.same(rebuilt(cast_of(ASKED)), ASKED)
        self.same(rebuilt(cast_of((2, (None,)))), (2, (None,)))
        self.same(rebuilt((DONE,) * 4), (4, (None,)))
        # Two ways to an end are two ends if the states are unlike.
        self.same(rebuilt(cast_of(TOLD)), (3, TOLD[1][:2] + ((1, ((2, 1, 4),)), None, None)))

    def test_the_least_ready_actor_speaks(self):
        self.same(rebuilt(cast_of(APART)), (4, ((0, ((1, 0, 1),)), (2, ((3, 0, 2),)), None)))

    def test_a_script_that_is_not_sound(self):
        # Actor 2 may say both words, actor 1 hears one of them: 2 is not ready.
        self.raises(NotMade, {}, rebuilt, cast_of(GUESSED))

    def test_rounds(self):
        script = (2, ((0, ((1, 0, 0), (1, 1, 1))), (1, ((0, 5, 0),))))
        self.same(rebuilt(cast_of(script)), script)

    def test_all_that_is_said_are_branches_in_order(self):
        cast = (((False, (("say", 1, 3, 1), ("say", 2, 0, 1))), (True, ())), ((True, (("hear", 0, 3, 0),)),),
                ((True, (("hear", 0, 0, 0), ("hear", 1, 4, 0))),))
        self.same(rebuilt(cast), (3, ((0, ((1, 3, 1), (2, 0, 1))), None)))

    def test_nobody_is_ready_and_not_all_may_rest(self):
        self.raises(NotMade, {}, rebuilt, WAITS)
        self.raises(NotMade, {}, rebuilt, (DONE, WAITS[1]))
        self.raises(NotMade, {}, rebuilt, line(3, STUCK))
        self.raises(NotMade, {}, rebuilt, (SAYS, DONE))

    def test_eight_scenes_and_nine(self):
        self.same(rebuilt(line(7)), (2, tuple([(0, ((1, 0, at + 1),)) for at in range(7)]) + (None,)))
        for many in (8, 9, 100):
            self.raises(TooMany, {"most": 8}, rebuilt, line(many))
        self.same(rebuilt(fan(7)), (3, ((0, tuple([(1, word, word + 1) for word in range(6)]) + ((2, 0, 7),)),)
                                    + (None,) * 7))
        for many in (8, 9, 12):
            self.raises(TooMany, {"most": 8}, rebuilt, fan(many))

    def test_the_ninth_does_not_come_ahead_of_such_a_place(self):
        for many in range(9):
            self.raises(NotMade, {}, rebuilt, line(many, STUCK))
        for stuck in range(8):
            self.raises(NotMade, {}, rebuilt, fan(8, (stuck,)))
            self.raises(NotMade, {}, rebuilt, fan(9, (stuck,)))
            self.raises(NotMade, {}, rebuilt, fan(12, (stuck, 9)))

    def test_the_ninth_comes_ahead_of_such_a_place(self):
        for many in (9, 10, 100):
            self.raises(TooMany, {"most": 8}, rebuilt, line(many, STUCK))
        for many, stuck in ((9, 8), (10, 8), (12, 11)):
            self.raises(TooMany, {"most": 8}, rebuilt, fan(many, (stuck,)))

    def test_all_against_the_words_of_the_document(self):
        seen = {}
        scripts = some_scripts(300, 83) + some_short_scripts(200, 84)
        for cast in some_casts(300, 85) + [cast_of(script) for script in scripts]:
            if all([is_plain(part) for part in cast]):
                expected = rebuilt_by_the_words(cast)
                if expected == "not made":
                    self.raises(NotMade, {}, rebuilt, cast)
                elif expected == "too many":
                    self.raises(TooMany, {"most": 8}, rebuilt, cast)
                else:
                    self.same(rebuilt(cast), expected, cast)
                key = expected if isinstance(expected, str) else has_rounds(expected)
                seen[key] = seen.get(key, 0) + 1
        self.assertEqual(len(seen), 4, seen)
        self.assertGreater(min(seen.values()), 1, seen)

    def test_rebuilt_out_of_sound_scripts(self):
        tried = 0
        for script in some_short_scripts(200, 86):
            if is_sound(script):
                found = rebuilt_by_the_words(cast_of(script))
                if found != "too many":
                    self.same(rebuilt(cast_of(script)), found)
                    self.same(are_alike(script, found), True, script)
                    self.same(trimmed(found), found)
                    tried += 1
        self.assertGreater(tried, 40)


class WrongCastTest(TalkCase):
    def calls(self):
        yield rebuilt, ()
        yield ready_actors, (None,)

    def test_wrong_casts(self):
        for function, rest in self.calls():
            for cast in test_stage_wrong.WRONG_CASTS:
                self.raises(BadCast, {"index": None}, function, cast, *rest)
            for part in test_parts_wrong.WRONG_FORMS:
                self.raises(BadCast, {"index": 2}, function, (DONE, DONE, part, None), *rest)
            for state in test_parts_wrong.WRONG_STATES:
                self.raises(BadCast, {"index": 1}, function, (DONE, (state, (True, ())), DONE), *rest)
            for step in test_stage_wrong.WRONG_STEPS:
                self.raises(BadCast, {"index": 1}, function, (DONE, ((False, (step,)), (True, ())), DONE), *rest)


class AlikeTest(TalkCase):
    def check(self, one, other, unlike):
        self.same(unlike_actors(one, other), unlike)
        self.same(unlike_actors(other, one), unlike)
        self.same(are_alike(one, other), unlike == ())
        self.same(are_alike(other, one), unlike == ())

    def test_alike(self):
        for script in (ONE_TALK, ASKED, TOLD, GUESSED, APART):
            self.check(script, script, ())
        self.check(APART, (4, ((0, ((1, 0, 1),)), (2, ((3, 0, 2),)), None)), ())
        self.check(ONE_TALK, (2, ((0, ((1, 0, 2),)), (1, ((0, 0, 0),)), None)), ())
        self.check((2, ((0, ((1, 0, 0),)),)), (2, ((0, ((1, 0, 1),)), (0, ((1, 0, 0),)))), ())

    def test_unlike(self):
        self.check(TOLD, GUESSED, (1, 2))
        self.check(ONE_TALK, (2, (None,)), (0, 1))
        self.check((3, ONE_TALK[1]), (3, (None,)), (0, 1))
        self.check((4, ((2, ((3, 0, 1),)), None)), (4, ((0, ((3, 0, 1),)), None)), (0, 2, 3))

    def test_the_end_counts(self):
        self.check((2, ((0, ((1, 0, 0), (1, 1, 1))), None)), (2, ((0, ((1, 0, 0), (1, 1, 1))), (0, ((1, 0, 0),)))), (0, 1))

    def test_unlike_numbers_of_actors(self):
        for one, other in [(ONE_TALK, TOLD), (TOLD, APART), ((4, (None,)), (2, (None,)))]:
            self.same(are_alike(one, other), False)
            self.same(are_alike(other, one), False)
            self.raises(NotMade, {}, unlike_actors, one, other)
            self.raises(NotMade, {}, unlike_actors, other, one)

    def test_all_against_the_words_of_the_document(self):
        seen = {}
        scripts = [script for script in some_scripts(150, 87) + some_short_scripts(100, 88)]
        scripts += [trimmed(script) for script in scripts[:60]] + [(2, (None,) * 3), (2, (None,))]
        for at, one in enumerate(scripts):
            for other in scripts[at + 1:at + 8] + [trimmed(one)]:
                if one[0] == other[0]:
                    pairs = zip(cast_of(one), cast_of(other))
                    unlike = tuple([actor for actor, (part, part_too) in enumerate(pairs) if not same_parts(part, part_too)])
                    self.check(one, other, unlike)
                    seen[len(unlike)] = seen.get(len(unlike), 0) + 1
        self.assertGreater(min([seen[many] for many in (0, 2, 3, 4)]), 10, seen)

    def test_the_order(self):
        for function in (are_alike, unlike_actors):
            self.raises(BadScript, {"index": None}, function, None, None)
            self.raises(BadScript, {"index": 1}, function, (2, (None, 7)), (3, (7,)))
            self.raises(BadScript, {"index": 0}, function, ONE_TALK, (3, (7,)))


class WrongFirstTest(test_scripts_wrong.WrongScripts, TalkCase):
    def calls(self):
        for function in (are_alike, unlike_actors):
            yield named(function, lambda script: with_as_many(function, script, False)), ()


class WrongSecondTest(test_scripts_wrong.WrongScripts, TalkCase):
    def calls(self):
        for function in (are_alike, unlike_actors):
            yield named(function, lambda script: with_as_many(function, script, True)), ()


def with_as_many(function, script, second):
    """A call with another script of as many actors, if the script has a number of actors at all."""
    actors = script[0] if isinstance(script, tuple) and script[:1] in ((3,), (4,)) else 2
    return function((actors, (None,)), script) if second else function(script, (actors, (None,)))


def named(function, call):
    def called(script):
        return call(script)
    called.__name__ = function.__name__
    return called


if __name__ == "__main__":
    unittest.main()
