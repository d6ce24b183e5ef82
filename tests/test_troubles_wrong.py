"""Points 1, 20 to 22: wrong arguments of the functions over trouble and over what does not fit."""

import unittest

from roletalks import troubles
from roletalks.errors import BadCast, BadNumber, BadScript, TooMany
from tests import test_parts_wrong, test_scripts_wrong, test_stage_wrong
from tests.support import WRONG_MANY, WRONG_SIZES, TalkCase
from tests.test_stage import LINE_OF_3001
from tests.test_stage_wrong import DONE, GOOD, SAYS, SCRIPT
from tests.test_troubles import ANYTHING, OF_3001

OF_CAST = (troubles.troubles, troubles.is_calm, troubles.first_trouble)
OF_SCRIPT = (troubles.first_off, troubles.keeps_to)


def cast_calls():
    """Each function with the arguments ahead of the cast, for casts of each number of actors, and those behind it."""
    for function in OF_CAST:
        yield function, lambda actors: (), (1,)
    for function in OF_SCRIPT:
        yield function, lambda actors: ((actors, (None,)),), (1, 2)


class WrongCastTest(TalkCase):
    def test_wrong_as_a_whole(self):
        for function, ahead, rest in cast_calls():
            for cast in test_stage_wrong.WRONG_CASTS:
                self.raises(BadCast, {"index": None}, function, *ahead(2), cast, *rest)

    def test_a_wrong_part(self):
        for function, ahead, rest in cast_calls():
            for part in test_parts_wrong.WRONG_FORMS:
                self.raises(BadCast, {"index": 0}, function, *ahead(2), (part, DONE), *rest)
                self.raises(BadCast, {"index": 3}, function, *ahead(4), (DONE, DONE, DONE, part), *rest)

    def test_a_wrong_state_or_step(self):
        for function, ahead, rest in cast_calls():
            for state in test_parts_wrong.WRONG_STATES:
                self.raises(BadCast, {"index": 1}, function, *ahead(3), (DONE, (state, (True, ())), DONE), *rest)
            for step in test_stage_wrong.WRONG_STEPS:
                self.raises(BadCast, {"index": 1},
                            function, *ahead(3), (DONE, ((False, (step,)), (True, ())), DONE), *rest)

    def test_what_is_just_allowed(self):
        many = (True, tuple([("hear", other, word, 254) for other in (0, 1, 2) for word in range(6)]))
        for cast in [(DONE, DONE), (DONE,) * 4, (DONE, DONE, DONE, (many,) + DONE * 254), GOOD]:
            for function, ahead, rest in cast_calls():
                before = repr(cast)
                function(*ahead(len(cast)), cast, *rest)
                self.assertEqual(repr(cast), before)

    def test_unlike_numbers_of_actors(self):
        for function in OF_SCRIPT:
            for actors in (2, 3, 4):
                for others in (2, 3, 4):
                    script = (actors, (None,))
                    if actors == others:
                        function(script, (DONE,) * others, 1, 2)
                    else:
                        self.raises(BadCast, {"index": None}, function, script, (DONE,) * others, 1, 2)


class WrongScriptTest(test_scripts_wrong.WrongScripts, TalkCase):
    """Among the scripts that are allowed there are such as the cast has too few or too many actors for."""

    def calls(self):
        for function in OF_SCRIPT:
            yield self.with_cast(function), ()

    def with_cast(self, function):
        def called(script):
            actors = script[0] if isinstance(script, tuple) and script[:1] in ((3,), (4,)) else 2
            return function(script, (DONE,) * actors, 1, 2)
        called.__name__ = function.__name__
        return called


class WrongNumberTest(TalkCase):
    def test_wrong_sizes(self):
        for size in WRONG_SIZES:
            for function in OF_CAST:
                self.raises(BadNumber, {}, function, GOOD, size)
            for function in OF_SCRIPT:
                self.raises(BadNumber, {}, function, SCRIPT, GOOD, size, 2)

    def test_wrong_lengths(self):
        for many in WRONG_MANY:
            for function in OF_SCRIPT:
                self.raises(BadNumber, {}, function, SCRIPT, GOOD, 1, many)

    def test_the_least_and_the_most(self):
        for size in (1, 2, 3):
            self.same(troubles.troubles(GOOD, size), ())
            for many in (0, 12):
                self.same(troubles.first_off(SCRIPT, GOOD, size, many), None)
                self.same(troubles.keeps_to(SCRIPT, GOOD, size, many), True)


class OrderTest(TalkCase):
    def test_the_cast_stands_ahead_of_the_size(self):
        for function in OF_CAST:
            self.raises(BadCast, {"index": None}, function, None, None)
            self.raises(BadCast, {"index": 1}, function, (SAYS, SAYS), 4)

    def test_the_script_stands_first(self):
        for function in OF_SCRIPT:
            self.raises(BadScript, {"index": None}, function, None, None, None, None)
            self.raises(BadScript, {"index": 1}, function, (2, (None, 7)), (SAYS, SAYS), 0, 13)
            self.raises(BadCast, {"index": 1}, function, SCRIPT, (SAYS, SAYS), 0, 13)

    def test_unlike_numbers_of_actors_are_told_behind_all_arguments(self):
        for function in OF_SCRIPT:
            self.raises(BadScript, {"index": 0}, function, (3, (7,)), GOOD, 1, 2)
            self.raises(BadCast, {"index": 2}, function, SCRIPT, (DONE, DONE, 7), 1, 2)
            self.raises(BadNumber, {}, function, (3, (None,)), GOOD, 4, 2)
            self.raises(BadNumber, {}, function, (3, (None,)), GOOD, 1, 13)
            self.raises(BadCast, {"index": None}, function, (3, (None,)), GOOD, 1, 12)

    def test_too_many_stands_last(self):
        for function in OF_CAST:
            self.raises(BadNumber, {}, function, LINE_OF_3001, 4)
            self.raises(TooMany, {"most": 3000}, function, LINE_OF_3001, 1)
        cast = (OF_3001, DONE, DONE, DONE)
        for function in OF_SCRIPT:
            self.raises(BadNumber, {}, function, ANYTHING, cast, 3, 13)
            self.raises(BadCast, {"index": None}, function, (3, (None,)), cast, 3, 12)
            self.raises(TooMany, {"most": 3000}, function, ANYTHING, cast, 3, 12)


if __name__ == "__main__":
    unittest.main()
