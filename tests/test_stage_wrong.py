"""Points 1, 14, 15, 17 to 19 and 22: wrong arguments of the functions over casts, rows and what fits."""

import unittest

from roletalks import stage, views
from roletalks.errors import BadCast, BadNumber, BadRow, BadScript, BadTalks, NotMade, TooMany
from tests import test_parts_wrong, test_scripts_wrong
from tests.support import ODD, WRONG_LONG, WRONG_SIZES, TalkCase
from tests.test_stage import LINE_OF_3001, ROWS_OF_3001

SIZED = (stage.count_positions, stage.layers, stage.ends, stage.can_be_over, stage.most_letters)
WITH_ROW = (stage.play, stage.doings)
WITH_MANY = (stage.rows, stage.count_rows)
OF_SCRIPT = (views.fits, views.fits_whole)

DONE = ((True, ()),)
SAYS = ((False, (("say", 1, 0, 1),)), (True, ()))
GOOD = (SAYS, ((False, (("hear", 0, 0, 1),)), (True, ())))
SCRIPT = (2, ((0, ((1, 0, 1),)), None))
SAY = (0, "say", 1, 0)
HEAR = (1, "hear", 0, 0)

# Casts that are wrong as a whole.
WRONG_CASTS = [value for value in ODD if not isinstance(value, tuple)] + [
    (), (DONE,), (DONE,) * 5, (7,) * 5, (7,), [DONE, DONE], {0: DONE, 1: DONE}, "ab", DONE,
]

# Steps that a part of two states of actor 1 in a cast of three cannot have.
WRONG_STEPS = test_parts_wrong.WRONG_STEPS + [
    ("say", 1, 0, 0), ("hear", 1, 5, 1), ("say", 3, 0, 0), ("hear", 3, 0, 0), ("say", 4, 0, 0), ("hear", -1, 0, 0),
]

# Rows that are wrong as a whole.
WRONG_ROWS = [value for value in ODD if not isinstance(value, tuple)] + [
    [SAY], (SAY,) * 41, (7,) * 41, {SAY: 0}, "ab",
]

# Values that are no doing of two actors.
WRONG_DOINGS = ODD + [
    (), (0, "say", 1), (0, "say", 1, 0, 0), [0, "say", 1, 0], (("say", 1, 0),), (0, ("say", 1, 0)), "0s10",
    # actors
    (-1, "say", 1, 0), (2, "say", 1, 0), (False, "say", 1, 0), (True, "say", 0, 0), (None, "say", 1, 0),
    ("0", "say", 1, 0), ((0,), "say", 1, 0), ([], "say", 1, 0),
    # kinds
    (0, "tell", 1, 0), (0, "", 1, 0), (0, "Say", 1, 0), (0, None, 1, 0), (0, 0, 1, 0), (0, True, 1, 0),
    (0, ("say",), 1, 0), (0, ["say"], 1, 0), (0, {}, 1, 0),
    # others
    (0, "say", 0, 0), (1, "hear", 1, 0), (0, "hear", 0, 0), (1, "say", 1, 5), (0, "say", -1, 0), (0, "say", 2, 0),
    (0, "hear", 2, 0), (0, "say", True, 0), (1, "say", False, 0), (1, "hear", None, 0), (1, "hear", "0", 0),
    (1, "hear", (0,), 0),
    # words
    (0, "say", 1, -1), (0, "say", 1, 6), (0, "say", 1, True), (0, "say", 1, False), (0, "say", 1, None),
    (1, "hear", 0, "a"), (1, "hear", 0, 6), (1, "hear", 0, -1), (1, "hear", 0, (0,)), (1, "hear", 0, [0]),
    # another order
    ("say", 0, 1, 0), (0, 1, "say", 0), (1, 0, 0, "hear"),
]


def cast_calls():
    """Each function with arguments that are right but for the cast."""
    for function in SIZED:
        yield function, (1,)
    for function in WITH_ROW:
        yield function, (1, ())
    for function in WITH_MANY:
        yield function, (1, 2)
    yield views.views, ((),)
    yield views.same_views, ((), ())


def row_calls():
    """Each function as one of the row alone, for a cast or a script of two actors who say and hear nothing else."""
    for function in WITH_ROW:
        yield function, (GOOD, 1), ()
    yield views.views, (GOOD,), ()
    yield views.same_views, (GOOD,), ((),)
    yield views.same_views, (GOOD, ()), ()
    for function in OF_SCRIPT:
        yield function, (SCRIPT,), ()


class WrongCastTest(TalkCase):
    def test_wrong_as_a_whole(self):
        for function, rest in cast_calls():
            for cast in WRONG_CASTS:
                self.raises(BadCast, {"index": None}, function, cast, *rest)

    def test_a_wrong_part(self):
        for function, rest in cast_calls():
            for part in test_parts_wrong.WRONG_FORMS:
                self.raises(BadCast, {"index": 0}, function, (part, DONE), *rest)
                self.raises(BadCast, {"index": 3}, function, (DONE, DONE, DONE, part), *rest)

    def test_a_wrong_state(self):
        for function, rest in cast_calls():
            for state in test_parts_wrong.WRONG_STATES:
                self.raises(BadCast, {"index": 1}, function, (DONE, (state, (True, ())), DONE), *rest)
                self.raises(BadCast, {"index": 2}, function, (DONE, DONE, ((True, ()), state)), *rest)

    def test_a_wrong_step(self):
        for function, rest in cast_calls():
            for step in WRONG_STEPS:
                self.raises(BadCast, {"index": 1}, function, (DONE, ((False, (step,)), (True, ())), DONE), *rest)

    def test_steps_name_other_actors_of_the_cast(self):
        for function, rest in cast_calls():
            for actors in (2, 3, 4):
                for actor in range(actors):
                    for other in range(4):
                        self.check_other(function, rest, actors, actor, other)

    def check_other(self, function, rest, actors, actor, other):
        for kind in ("say", "hear"):
            part = ((True, ((kind, other, 0, 0),)),)
            cast = (DONE,) * actor + (part,) + (DONE,) * (actors - actor - 1)
            if other == actor or other >= actors:
                self.raises(BadCast, {"index": actor}, function, cast, *rest)
            else:
                function(cast, *rest)

    def test_steps_of_states_that_never_come_count_too(self):
        for function, rest in cast_calls():
            self.raises(BadCast, {"index": 0}, function, (DONE + ((False, (("say", 0, 0, 0),)),), DONE), *rest)
            self.raises(BadCast, {"index": 1}, function, (DONE, DONE + ((False, (("hear", 2, 0, 0),)),)), *rest)
            self.raises(BadCast, {"index": 1},
                        function, (DONE, ((False, (("hear", 0, 0, 0), ("say", 1, 0, 0))),), DONE), *rest)

    def test_the_first_wrong_part(self):
        for function, rest in cast_calls():
            self.raises(BadCast, {"index": 0}, function, (((True, (("say", 0, 0, 0),)),), 7), *rest)
            self.raises(BadCast, {"index": 1}, function, (DONE, 7, 8), *rest)
            self.raises(BadCast, {"index": 1}, function, (SAYS, SAYS, 7), *rest)

    def test_what_is_just_allowed(self):
        many = (True, tuple([("hear", other, word, 254) for other in (0, 1, 2) for word in range(6)]))
        for cast in [(DONE, DONE), (DONE,) * 4, (DONE, DONE, DONE, (many,) + DONE * 254), GOOD]:
            for function, rest in cast_calls():
                before = repr(cast)
                function(cast, *rest)
                self.assertEqual(repr(cast), before)


class WrongNumberTest(TalkCase):
    def test_wrong_sizes(self):
        for size in WRONG_SIZES:
            for function in SIZED:
                self.raises(BadNumber, {}, function, GOOD, size)
            for function in WITH_ROW:
                self.raises(BadNumber, {}, function, GOOD, size, ())
            for function in WITH_MANY:
                self.raises(BadNumber, {}, function, GOOD, size, 2)

    def test_wrong_lengths(self):
        for function in WITH_MANY:
            for many in WRONG_LONG:
                self.raises(BadNumber, {}, function, GOOD, 1, many)

    def test_the_least_and_the_most(self):
        for size in (1, 2, 3):
            self.same(stage.count_positions(GOOD, size), 3)
            self.same(stage.rows(GOOD, size, 0), [()])
            self.same(stage.rows(GOOD, size, 40), [])
            self.same(stage.count_rows(GOOD, size, 0), 1)
            self.same(stage.count_rows(GOOD, size, 40), 0)


class WrongRowTest(TalkCase):
    def test_wrong_as_a_whole(self):
        for function, before, behind in row_calls():
            for row in WRONG_ROWS:
                self.raises(BadRow, {"index": None}, function, *before, row, *behind)

    def test_a_wrong_doing(self):
        for function, before, behind in row_calls():
            for doing in WRONG_DOINGS:
                self.raises(BadRow, {"index": 0}, function, *before, (doing,), *behind)
                self.raises(BadRow, {"index": 2}, function, *before, (SAY, HEAR, doing), *behind)
                self.raises(BadRow, {"index": 39}, function, *before, (SAY,) * 39 + (doing,), *behind)

    def test_the_first_wrong_doing(self):
        for function, before, behind in row_calls():
            self.raises(BadRow, {"index": 1}, function, *before, (SAY, (0, "say", 0, 0), 7), *behind)

    def test_the_actors_are_those_of_the_cast_or_the_script(self):
        for actors in (2, 3, 4):
            last = actors - 1
            cast = (DONE,) * actors
            for function, rest in [(views.views, (cast,)), (views.fits, ((actors, (None,)),)),
                                   (views.fits_whole, ((actors, (None,)),)), (views.same_views, (cast, ()))]:
                function(*rest, ((last, "say", 0, 5), (0, "hear", last, 5)))
                self.raises(BadRow, {"index": 0}, function, *rest, ((actors, "say", 0, 5),))
                self.raises(BadRow, {"index": 1}, function, *rest, (SAY, (0, "hear", actors, 5)))
                self.raises(BadRow, {"index": 1}, function, *rest, (SAY, (last, "hear", last, 5)))
            for function in WITH_ROW:
                self.raises(NotMade, {}, function, cast, 1, ((last, "say", 0, 5),))
                self.raises(BadRow, {"index": 0}, function, cast, 1, ((0, "say", actors, 5),))

    def test_a_row_of_forty_doings_is_allowed(self):
        for function, before, behind in row_calls():
            if function in WITH_ROW:
                self.raises(NotMade, {}, function, *before, (SAY,) * 40, *behind)
            else:
                function(*before, (SAY,) * 40, *behind)

    def test_a_doing_that_cannot_be_done_is_told_behind_a_wrong_one(self):
        for function in WITH_ROW:
            self.raises(BadRow, {"index": 1}, function, GOOD, 1, (HEAR, None))
            self.raises(BadRow, {"index": None}, function, GOOD, 1, (HEAR,) * 41)
            self.raises(NotMade, {}, function, GOOD, 1, (HEAR,))


class WrongScriptTest(test_scripts_wrong.WrongScripts, TalkCase):
    def calls(self):
        for function in OF_SCRIPT + (views.row_of_way,):
            yield function, ((),)


class WrongTalksTest(TalkCase):
    def test_wrong_as_a_whole(self):
        for talks in test_scripts_wrong.WRONG_ROWS:
            self.raises(BadTalks, {"index": None}, views.row_of_way, SCRIPT, talks)

    def test_a_wrong_talk(self):
        for talk in test_scripts_wrong.WRONG_TALKS:
            self.raises(BadTalks, {"index": 0}, views.row_of_way, SCRIPT, (talk,))
            self.raises(BadTalks, {"index": 11}, views.row_of_way, SCRIPT, ((1, 0, 5),) * 11 + (talk,))

    def test_the_first_wrong_talk(self):
        self.raises(BadTalks, {"index": 1}, views.row_of_way, SCRIPT, ((0, 1, 0), (0, 2, 0), 7))


class OrderTest(TalkCase):
    def test_the_cast_stands_first(self):
        for function in SIZED:
            self.raises(BadCast, {"index": None}, function, None, None)
            self.raises(BadCast, {"index": 1}, function, (SAYS, SAYS), 4)
        for function in WITH_ROW + WITH_MANY:
            self.raises(BadCast, {"index": None}, function, None, None, None)
            self.raises(BadCast, {"index": 1}, function, (SAYS, SAYS), 0, 41)
        self.raises(BadCast, {"index": 1}, views.views, (SAYS, SAYS), None)
        self.raises(BadCast, {"index": 1}, views.same_views, (SAYS, SAYS), None, None)

    def test_the_size_stands_ahead_of_the_row_and_the_number(self):
        for function in WITH_ROW:
            self.raises(BadNumber, {}, function, GOOD, 0, None)
            self.raises(BadNumber, {}, function, GOOD, None, (7,))
            self.raises(BadNumber, {}, function, GOOD, 4, (HEAR,))

    def test_one_row_stands_ahead_of_the_other(self):
        self.raises(BadRow, {"index": 1}, views.same_views, GOOD, (SAY, 7), None)
        self.raises(BadRow, {"index": None}, views.same_views, GOOD, None, (7,))
        self.raises(BadRow, {"index": 0}, views.same_views, GOOD, (SAY,), (7,))

    def test_the_script_stands_first(self):
        for function in OF_SCRIPT + (views.row_of_way,):
            self.raises(BadScript, {"index": None}, function, None, None)
            self.raises(BadScript, {"index": 1}, function, (2, (None, 7)), (7,))

    def test_too_many_stands_last(self):
        for function in SIZED:
            self.raises(BadNumber, {}, function, LINE_OF_3001, 4)
            self.raises(TooMany, {"most": 3000}, function, LINE_OF_3001, 1)
        self.raises(BadNumber, {}, stage.rows, ROWS_OF_3001, 3, 41)
        self.raises(BadNumber, {}, stage.rows, ROWS_OF_3001, 0, 5)
        self.raises(TooMany, {"most": 3000}, stage.rows, ROWS_OF_3001, 3, 5)


if __name__ == "__main__":
    unittest.main()
