"""Points 1, 6, 23 to 29: wrong arguments of the functions over stand-ins and shaking hands."""

import unittest

from roletalks import shakes, standins
from roletalks.errors import BadActor, BadCast, BadNumber, BadPart, BadTalks, NotMade
from tests import test_parts_wrong, test_scripts_wrong
from tests.support import ODD, WRONG_MANY, TalkCase
from tests.test_parts_wrong import RESTING, WRONG_FORMS, WRONG_STATES, WRONG_STEPS

OF_TWO = (standins.stands_in, standins.is_narrower, standins.why_not, standins.common_stand_in, standins.least_over)
OF_ONE = (standins.narrowest, standins.count_says)

DONE = (RESTING,)
SAYS = ((False, (("say", 1, 0, 1),)), RESTING)
HEARS = ((False, (("hear", 0, 0, 1),)), RESTING)
STUCK = ((False, ()),)

# Values that are no actor from 0 to 3.
WRONG_ACTORS = [value for value in ODD if value not in (0, 3) or isinstance(value, bool)] + [4, 5, "A", (1,), [1]]

# Steps that a part of two states of actor 0 in a cast of two cannot have.
WRONG_STEPS_OF_TWO = WRONG_STEPS + [("say", 0, 0, 0), ("hear", 0, 5, 1), ("say", 2, 0, 0), ("hear", 3, 0, 0)]


def part_calls():
    """Each function over parts as one of one part alone."""
    for function in OF_ONE:
        yield function
    yield named(standins.opposite, lambda part: standins.opposite(part, 0))
    for function in OF_TWO:
        yield from one_of_two(function)


def one_of_two(function):
    yield named(function, lambda part: function(part, DONE))
    yield named(function, lambda part: function(DONE, part))


def named(function, call):
    def called(part):
        return call(part)
    called.__name__ = function.__name__
    return called


def shake_calls():
    """Each function over two parts that shake hands, with its further arguments."""
    yield shakes.shaken, ((),)
    yield shakes.shake_pairs, ()
    yield shakes.shake_rows, (2,)
    yield shakes.first_clash, ()
    yield shakes.shakes_well, ()


class WrongPartTest(TalkCase):
    def test_wrong_as_a_whole(self):
        for function in part_calls():
            for part in WRONG_FORMS:
                self.raises(BadPart, {"index": None}, function, part)

    def test_a_wrong_state(self):
        for function in part_calls():
            for state in WRONG_STATES:
                self.raises(BadPart, {"index": 0}, function, (state, RESTING))
                self.raises(BadPart, {"index": 1}, function, (RESTING, state))

    def test_a_wrong_step(self):
        for function in part_calls():
            for step in WRONG_STEPS:
                self.raises(BadPart, {"index": 0}, function, ((False, (step,)), RESTING))

    def test_the_first_wrong_state(self):
        for function in part_calls():
            self.raises(BadPart, {"index": 0}, function, (7, 8))
            self.raises(BadPart, {"index": 254}, function, (RESTING,) * 254 + (7,))

    def test_what_is_just_allowed(self):
        words = tuple([("hear", 1, word, 254) for word in range(6)])
        for function in part_calls():
            for part in [DONE, DONE * 255, ((False, words),) + DONE * 254, DONE + STUCK * 254]:
                before = repr(part)
                function(part)
                self.assertEqual(repr(part), before)

    def test_the_order(self):
        for function in OF_TWO:
            self.raises(BadPart, {"index": 1}, function, (RESTING, 7), None)
            self.raises(BadPart, {"index": None}, function, None, (7,))
            self.raises(BadPart, {"index": 0}, function, STUCK, (7,))
            self.raises(NotMade, {}, function, STUCK, STUCK)
        self.raises(BadPart, {"index": None}, standins.opposite, None, None)
        self.raises(BadPart, {"index": 0}, standins.opposite, (7,), 4)
        for function in OF_ONE:
            self.raises(BadPart, {"index": 1}, function, STUCK + (7,))


class WrongActorTest(TalkCase):
    def test_wrong_actors(self):
        for actor in WRONG_ACTORS:
            self.raises(BadActor, {}, standins.opposite, SAYS, actor)
            self.raises(BadActor, {}, standins.opposite, STUCK, actor)
            self.raises(BadActor, {}, standins.opposite, DONE, actor)

    def test_the_least_and_the_most(self):
        for actor in (0, 3):
            self.same(standins.opposite(SAYS, actor), ((False, (("hear", actor, 0, 1),)), RESTING))


class WrongCastTest(TalkCase):
    def test_wrong_parts(self):
        for function, rest in shake_calls():
            for part in WRONG_FORMS + [(state, RESTING) for state in WRONG_STATES]:
                self.raises(BadCast, {"index": 0}, function, part, DONE, *rest)
                self.raises(BadCast, {"index": 1}, function, DONE, part, *rest)
                self.raises(BadCast, {"index": 0}, function, part, part, *rest)

    def test_wrong_steps(self):
        for function, rest in shake_calls():
            for step in WRONG_STEPS_OF_TWO:
                self.raises(BadCast, {"index": 0}, function, ((False, (step,)), RESTING), DONE, *rest)
            for step in [("say", 1, 0, 0), ("hear", 1, 5, 1), ("say", 2, 0, 0), ("hear", 3, 0, 1), ("say", 4, 0, 0)]:
                self.raises(BadCast, {"index": 1}, function, DONE, ((False, (step,)), RESTING), *rest)

    def test_two_parts_that_make_no_cast(self):
        for function, rest in shake_calls():
            self.raises(BadCast, {"index": 1}, function, SAYS, SAYS, *rest)
            self.raises(BadCast, {"index": 0}, function, HEARS, HEARS, *rest)
            self.raises(BadCast, {"index": 0}, function, HEARS, SAYS, *rest)
            function(SAYS, HEARS, *rest)

    def test_steps_of_states_that_never_come_count_too(self):
        for function, rest in shake_calls():
            self.raises(BadCast, {"index": 0}, function, DONE + ((True, (("hear", 2, 0, 0),)),), DONE, *rest)
            self.raises(BadCast, {"index": 1}, function, DONE, DONE + ((True, (("say", 1, 0, 0),)),), *rest)

    def test_parts_need_not_be_plain(self):
        mixed = ((True, (("hear", 1, 0, 0), ("say", 1, 0, 0))),)
        for function, rest in shake_calls():
            function(mixed, HEARS, *rest)
            function(STUCK, DONE, *rest)

    def test_what_is_just_allowed(self):
        words = tuple([("hear", 1, word, 254) for word in range(6)])
        for function, rest in shake_calls():
            for part in [DONE, DONE * 255, ((False, words),) + DONE * 254]:
                before = repr(part)
                function(part, DONE, *rest)
                self.assertEqual(repr(part), before)


class WrongTalksTest(TalkCase):
    def test_wrong_as_a_whole(self):
        for talks in test_scripts_wrong.WRONG_ROWS:
            self.raises(BadTalks, {"index": None}, shakes.shaken, SAYS, HEARS, talks)

    def test_a_wrong_talk(self):
        for talk in test_scripts_wrong.WRONG_TALKS:
            self.raises(BadTalks, {"index": 0}, shakes.shaken, SAYS, HEARS, (talk,))
            self.raises(BadTalks, {"index": 1}, shakes.shaken, SAYS, HEARS, ((0, 1, 0), talk))
            self.raises(BadTalks, {"index": 11}, shakes.shaken, SAYS, HEARS, ((1, 0, 5),) * 11 + (talk,))

    def test_the_first_wrong_talk(self):
        self.raises(BadTalks, {"index": 1}, shakes.shaken, SAYS, HEARS, ((1, 0, 5), (0, 2, 0), 7))


class WrongNumberTest(TalkCase):
    def test_wrong_numbers(self):
        for many in WRONG_MANY:
            self.raises(BadNumber, {}, shakes.shake_rows, SAYS, HEARS, many)

    def test_the_least_and_the_most(self):
        self.same(shakes.shake_rows(SAYS, HEARS, 0), [()])
        self.same(shakes.shake_rows(SAYS, HEARS, 12), [])


class OrderTest(TalkCase):
    def test_the_parts_stand_ahead_of_the_talks_and_the_number(self):
        for function in (shakes.shaken, shakes.shake_rows):
            self.raises(BadCast, {"index": 0}, function, None, None, None)
            self.raises(BadCast, {"index": 1}, function, SAYS, (7,), 13)
            self.raises(BadCast, {"index": 1}, function, SAYS, SAYS, (7,))


if __name__ == "__main__":
    unittest.main()
