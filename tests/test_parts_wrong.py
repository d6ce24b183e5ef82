"""Points 1, 6 and 7: wrong arguments of the functions over parts, and what is just still allowed."""

import unittest

from roletalks import parts
from roletalks.errors import BadEvents, BadNumber, BadPart
from tests.support import ODD, WRONG_MANY, TalkCase

ALONE = ("trimmed_part", "least_part", "others", "may_rest", "is_plain", "count_states")
WITH_MANY = ("runs", "resting_runs")

GOOD = ((False, (("say", 1, 0, 1),)), (True, ()))
RESTING = (True, ())

# Parts that are wrong as a whole.
WRONG_FORMS = [value for value in ODD if not isinstance(value, tuple)] + [
    (), (RESTING,) * 256, (7,) * 256, [RESTING], [], {0: RESTING},
]

# Values that are no event.
WRONG_EVENTS = ODD + [
    (), ("say", 1), ("say", 1, 0, 1), ["say", 1, 0], "sa0",
    ("tell", 1, 0), ("Say", 1, 0), ("", 1, 0), (None, 1, 0), (0, 1, 0), (True, 1, 0), (("say",), 1, 0),
    (["say"], 1, 0), ({}, 1, 0),
    ("say", -1, 0), ("say", 4, 0), ("say", True, 0), ("say", False, 0), ("hear", None, 0), ("hear", "1", 0),
    ("hear", (1,), 0), ("hear", -1, 0), ("hear", 4, 0), ("hear", True, 0), ("hear", False, 0),
    ("say", 1, -1), ("say", 1, 6), ("say", 1, True), ("say", 1, False), ("hear", 1, None), ("hear", 1, "a"),
    ("hear", 1, -1), ("hear", 1, 6), ("hear", 1, True), ("hear", 1, False), (1, 0, "say"),
]

# Steps that are wrong in a part of two states.
WRONG_STEPS = [event + (1,) for event in WRONG_EVENTS if isinstance(event, tuple)] + [
    value for value in ODD if not isinstance(value, tuple)] + [
    ("say", 1, 0, -1), ("say", 1, 0, 2), ("say", 1, 0, True), ("say", 1, 0, False), ("say", 1, 0, None),
    ("say", 1, 0, "1"), ("say", 1, 0, (1,)), ("say", 1, 0), ("say", 1, 0, 1, 1), ["say", 1, 0, 1],
    (("say", 1, 0), 1),
]

# Values that are no state of a part of two states.
WRONG_STATES = ODD + [
    (), (True,), (True, (), ()), [True, ()], (True, []), (True, None), (True, {}), (True, "say"), ((), True),
    (0, ()), (1, ()), (None, ()), ("rest", ()), ((True,), ()), ([], ()),
    (True, ("say", 1, 0, 1)), (True, [("say", 1, 0, 1)]),
    # the order, and the same event twice
    (True, (("say", 1, 0, 1), ("hear", 1, 0, 1))), (True, (("say", 2, 0, 1), ("say", 1, 0, 1))),
    (True, (("hear", 1, 1, 0), ("hear", 1, 0, 1))), (True, (("say", 1, 0, 1), ("say", 1, 0, 1))),
    (True, (("say", 1, 0, 0), ("say", 1, 0, 1))), (True, (("say", 1, 0, 1), ("say", 1, 0, 0))),
    (True, (("hear", 0, 0, 0), ("hear", 0, 1, 0), ("hear", 0, 1, 1))),
    (True, (("hear", 0, 0, 0), ("say", 0, 1, 0), ("hear", 0, 2, 1))),
    # a later step
    (True, (("hear", 0, 0, 0), ("say", 0, 6, 0))), (True, (("hear", 0, 0, 0), None)),
    (True, (("hear", 0, 0, 0), ("say", 0, 0, 2))),
]

# Parts at the edge of what is allowed.
ALLOWED = [
    (RESTING,), (RESTING,) * 255, ((False, ()),), ((True, (("say", 3, 5, 254),)),) + (RESTING,) * 254,
    ((False, (("hear", 0, 0, 0), ("hear", 0, 1, 0), ("hear", 1, 0, 0), ("say", 0, 0, 0))),),
    ((False, (("hear", 3, 5, 0), ("say", 0, 0, 0), ("say", 3, 5, 0))),),
]

# Rows of events that are wrong as a whole.
WRONG_ROWS = [value for value in ODD if not isinstance(value, tuple)] + [
    [("say", 1, 0)], (("say", 1, 0),) * 13, (7,) * 13, {("say", 1, 0): 0},
]


def calls():
    """Each function as one of the part alone."""
    for name in ALONE:
        yield getattr(parts, name)
    for name in WITH_MANY:
        yield with_rest(name, lambda function, part: function(part, 2))
    yield with_rest("behind", lambda function, part: function(part, ()))
    yield with_rest("same_parts", lambda function, part: function(part, GOOD))
    yield with_rest("same_parts", lambda function, part: function(GOOD, part))


def with_rest(name, call):
    def called(part):
        return call(getattr(parts, name), part)
    called.__name__ = name
    return called


class WrongPartTest(TalkCase):
    def test_wrong_as_a_whole(self):
        for function in calls():
            for part in WRONG_FORMS:
                self.raises(BadPart, {"index": None}, function, part)

    def test_a_wrong_state(self):
        for function in calls():
            for state in WRONG_STATES:
                self.raises(BadPart, {"index": 0}, function, (state, RESTING))
                self.raises(BadPart, {"index": 1}, function, (RESTING, state))

    def test_a_wrong_step(self):
        for function in calls():
            for step in WRONG_STEPS:
                self.raises(BadPart, {"index": 0}, function, ((False, (step,)), RESTING))

    def test_the_first_wrong_state(self):
        for function in calls():
            self.raises(BadPart, {"index": 0}, function, (7, 8))
            self.raises(BadPart, {"index": 1}, function, (RESTING, (0, ()), (1, ())))
            self.raises(BadPart, {"index": 254}, function, (RESTING,) * 254 + (7,))
            self.raises(BadPart, {"index": 0}, function, ((True, (("say", 1, 0, 1),)),))

    def test_what_is_just_allowed(self):
        for function in calls():
            for part in ALLOWED:
                before = repr(part)
                function(part)
                self.assertEqual(repr(part), before)

    def test_the_first_part_stands_first(self):
        self.raises(BadPart, {"index": 1}, parts.same_parts, (RESTING, 7), None)
        self.raises(BadPart, {"index": None}, parts.same_parts, None, (7,))


class WrongNumberTest(TalkCase):
    def test_wrong_numbers(self):
        for name in WITH_MANY:
            for many in WRONG_MANY:
                self.raises(BadNumber, {}, getattr(parts, name), GOOD, many)

    def test_the_least_and_the_most(self):
        for name in WITH_MANY:
            self.same(getattr(parts, name)((RESTING,), 0), [()])
            self.same(getattr(parts, name)((RESTING,), 12), [])

    def test_the_part_stands_first(self):
        for name in WITH_MANY:
            self.raises(BadPart, {"index": None}, getattr(parts, name), None, None)
            self.raises(BadPart, {"index": 1}, getattr(parts, name), (RESTING, 7), 13)


class WrongEventsTest(TalkCase):
    def test_wrong_as_a_whole(self):
        for events in WRONG_ROWS:
            self.raises(BadEvents, {"index": None}, parts.behind, GOOD, events)

    def test_a_wrong_event(self):
        for event in WRONG_EVENTS:
            self.raises(BadEvents, {"index": 0}, parts.behind, GOOD, (event,))
            self.raises(BadEvents, {"index": 1}, parts.behind, GOOD, (("say", 1, 0), event))
            self.raises(BadEvents, {"index": 11}, parts.behind, GOOD, (("hear", 0, 5),) * 11 + (event,))

    def test_the_first_wrong_event(self):
        self.raises(BadEvents, {"index": 1}, parts.behind, GOOD, (("say", 1, 0), ("say", 4, 0), 7))

    def test_an_event_that_cannot_be_is_not_told_ahead_of_a_wrong_one(self):
        self.raises(BadEvents, {"index": 1}, parts.behind, GOOD, (("hear", 0, 0), None))

    def test_what_is_just_allowed(self):
        for kind in ("say", "hear"):
            self.same(parts.behind((RESTING,), ((kind, 0, 0), (kind, 3, 5))), None)

    def test_the_part_stands_first(self):
        self.raises(BadPart, {"index": None}, parts.behind, None, None)
        self.raises(BadPart, {"index": 1}, parts.behind, (RESTING, 7), (7,))


if __name__ == "__main__":
    unittest.main()
