"""Points 6 to 8: what the functions over parts return."""

import inspect
import itertools
import unittest

from roletalks import parts
from roletalks.parts import behind, count_states, is_plain, least_part, may_rest, others, resting_runs, runs
from roletalks.parts import same_parts, trimmed_part
from tests.support import TalkCase, some_parts

RESTING = ((True, ()),)
DEAD = ((False, ()),)
SAYS = ((False, (("say", 1, 0, 1), ("say", 1, 1, 1))), (True, ()))
BOTH = ((False, (("hear", 0, 5, 1), ("say", 3, 0, 0))), (True, (("hear", 2, 1, 0),)))
# States 1 and 4 never come; the others come in the order 0, 5, 2, 3.
MIXED = ((False, (("hear", 3, 0, 5), ("say", 0, 0, 2), ("say", 0, 1, 5))), (True, (("say", 1, 1, 4),)),
         (True, (("hear", 1, 2, 3),)), (False, (("say", 0, 5, 0),)), (True, ()), (True, ()))
# States 1 and 2 do the same, 3 and 4 too; states 1 and 3 do not, for 4 rests behind what 1 does not.
PAIRS = ((False, (("say", 1, 0, 1), ("say", 1, 1, 2))), (False, (("hear", 1, 0, 3),)), (False, (("hear", 1, 0, 4),)),
         (True, ()), (True, ()))
ROUND = tuple([(True, (("hear", 0, 3, (at + 1) % 255),)) for at in range(255)])
LINE = tuple([(False, (("hear", 0, 3, at + 1),)) for at in range(254)]) + ((True, ()),)
FULL = ((True, tuple([(kind, other, word, 0) for kind in ("hear", "say") for other in range(4) for word in range(6)])),)
ALL = [RESTING, DEAD, SAYS, BOTH, MIXED, PAIRS] + some_parts(250, 2)

INTERFACE = {
    "trimmed_part": ["part"], "least_part": ["part"], "others": ["part"], "may_rest": ["part"],
    "behind": ["part", "events"], "runs": ["part", "many"], "resting_runs": ["part", "many"], "is_plain": ["part"],
    "same_parts": ["one", "other"], "count_states": ["part"],
}


def states_that_come(part):
    """The states that come, by closing the relation step by step."""
    found = {0}
    while True:
        more = found.union(*[[step[3] for step in part[state][1]] for state in found])
        if more == found:
            return sorted(found)
        found = more


def state_behind(part, events):
    """The state behind a row of events, by looking for a step for each event."""
    state = 0
    for event in events:
        found = [step[3] for step in part[state][1] if step[:3] == event]
        if not found:
            return None
        state = found[0]
    return state


def events_in(part):
    """All events that stand in a part anywhere."""
    return sorted({step[:3] for _, steps in part for step in steps})


def doing(part, state, depth):
    """All that can be seen of a state by rows of events of at most a length."""
    rest, steps = part[state]
    if depth == 0:
        return rest, None
    return rest, tuple([step[:3] + (doing(part, step[3], depth - 1),) for step in steps])


class InterfaceTest(TalkCase):
    def test_names_and_arguments(self):
        for name, arguments in INTERFACE.items():
            function = getattr(parts, name)
            self.assertEqual(function.__module__, "roletalks.parts", name)
            self.assertEqual(list(inspect.signature(function).parameters), arguments, name)


class StateTest(TalkCase):
    def test_trimmed_part(self):
        for part in (RESTING, DEAD, SAYS, BOTH, PAIRS, FULL, ROUND, LINE):
            self.same(trimmed_part(part), part)
        self.same(trimmed_part(RESTING + SAYS[:1]), RESTING)

    def test_states_are_named_in_the_order_of_their_coming(self):
        self.same(trimmed_part(MIXED), (
            (False, (("hear", 3, 0, 1), ("say", 0, 0, 2), ("say", 0, 1, 1))), (True, ()),
            (True, (("hear", 1, 2, 3),)), (False, (("say", 0, 5, 0),))))

    def test_the_states_right_behind_one_come_ahead_of_those_behind_them(self):
        part = ((True, (("hear", 0, 0, 3), ("hear", 0, 1, 1))), (True, ()), (False, ()), (False, (("say", 0, 0, 2),)))
        self.same(trimmed_part(part), ((True, (("hear", 0, 0, 1), ("hear", 0, 1, 2))), (False, (("say", 0, 0, 3),)),
                                       (True, ()), (False, ())))

    def test_others(self):
        self.same(others(RESTING), ())
        self.same(others(SAYS), (1,))
        self.same(others(BOTH), (0, 2, 3))
        self.same(others(MIXED), (0, 1, 3))
        self.same(others(FULL), (0, 1, 2, 3))
        self.same(others(RESTING + SAYS[:1]), ())

    def test_may_rest(self):
        self.same(may_rest(RESTING), (0,))
        self.same(may_rest(DEAD), ())
        self.same(may_rest(SAYS), (1,))
        self.same(may_rest(MIXED), (2, 5))
        self.same(may_rest(LINE), (254,))
        self.same(may_rest(DEAD + RESTING), ())

    def test_states_may_come_in_another_order_than_theirs(self):
        part = ((False, (("say", 0, 0, 2), ("say", 3, 0, 1))), (True, (("say", 2, 0, 0),)), (True, ()))
        self.same(may_rest(part), (1, 2))
        self.same(others(part), (0, 2, 3))

    def test_is_plain(self):
        says = ("say", 1, 0, 0)
        hears = ("hear", 1, 0, 0)
        for state, expected in [
            ((False, (says,)), True), ((True, (says,)), False), ((False, (hears,)), True), ((True, (hears,)), True),
            ((False, (hears, says)), False), ((True, (hears, says)), False), ((True, ()), True), ((False, ()), False),
            ((False, (says, ("say", 2, 0, 0))), True), ((True, (hears, ("hear", 2, 0, 0))), True),
        ]:
            self.same(is_plain((state,)), expected, state)

    def test_only_states_that_come_need_to_be_plain(self):
        self.same(is_plain(RESTING + DEAD), True)
        self.same(is_plain(((False, (("say", 1, 0, 1),)), (False, ()))), False)
        self.same(is_plain(MIXED), False)
        self.same(is_plain(LINE), True)

    def test_all_against_the_words_of_the_document(self):
        for part in ALL:
            comes = states_that_come(part)
            self.same(others(part), tuple(sorted({step[1] for at in comes for step in part[at][1]})), part)
            self.same(may_rest(part), tuple([at for at in comes if part[at][0]]), part)
            short = trimmed_part(part)
            self.same(len(short), len(comes), part)
            self.same(doing(short, 0, 7), doing(part, 0, 7), part)


class RunTest(TalkCase):
    def test_behind(self):
        self.same(behind(SAYS, ()), 0)
        self.same(behind(SAYS, (("say", 1, 1),)), 1)
        self.same(behind(BOTH, (("say", 3, 0), ("hear", 0, 5))), 1)
        self.same(behind(BOTH, (("hear", 0, 5), ("hear", 2, 1))), 0)
        self.same(behind(ROUND, (("hear", 0, 3),) * 12), 12)

    def test_behind_has_none_for_what_cannot_be(self):
        self.same(behind(SAYS, (("hear", 1, 0),)), None)
        self.same(behind(SAYS, (("say", 1, 2),)), None)
        self.same(behind(SAYS, (("say", 2, 0),)), None)
        self.same(behind(SAYS, (("say", 1, 0), ("say", 1, 0))), None)
        self.same(behind(SAYS, (("say", 1, 5), ("say", 1, 0))), None)
        self.same(behind(RESTING, (("hear", 3, 5),)), None)

    def test_runs(self):
        self.same(runs(SAYS, 0), [()])
        self.same(runs(SAYS, 1), [(("say", 1, 0),), (("say", 1, 1),)])
        self.same(runs(SAYS, 2), [])
        self.same(runs(BOTH, 2), [(("hear", 0, 5), ("hear", 2, 1)), (("say", 3, 0), ("hear", 0, 5)),
                                  (("say", 3, 0), ("say", 3, 0))])
        self.same(runs(ROUND, 12), [(("hear", 0, 3),) * 12])
        self.same(runs(FULL, 1), [(step[:3],) for step in FULL[0][1]])

    def test_resting_runs(self):
        self.same(resting_runs(SAYS, 0), [])
        self.same(resting_runs(SAYS, 1), [(("say", 1, 0),), (("say", 1, 1),)])
        self.same(resting_runs(RESTING, 0), [()])
        self.same(resting_runs(RESTING, 1), [])
        self.same(resting_runs(BOTH, 2), [(("say", 3, 0), ("hear", 0, 5))])
        self.same(resting_runs(LINE, 12), [])
        self.same(resting_runs(ROUND, 12), [(("hear", 0, 3),) * 12])

    def test_all_against_the_words_of_the_document(self):
        for part in ALL[:100]:
            for many in range(3):
                self.check_runs(part, many)

    def check_runs(self, part, many):
        rows = list(itertools.product(events_in(part), repeat=many))
        for row in rows:
            self.same(behind(part, row), state_behind(part, row), part)
        found = [row for row in rows if state_behind(part, row) is not None]
        self.same(runs(part, many), sorted(found), part)
        self.same(resting_runs(part, many), sorted([row for row in found if part[state_behind(part, row)][0]]), part)

    def test_lists_are_new(self):
        for function in (runs, resting_runs):
            function(RESTING, 0).append("more")
            self.same(function(RESTING, 0), [()])


class SameTest(TalkCase):
    def test_same_parts(self):
        self.same(same_parts(SAYS, SAYS), True)
        self.same(same_parts(PAIRS, least_part(PAIRS)), True)
        self.same(same_parts(ROUND, ((True, (("hear", 0, 3, 0),)),)), True)
        self.same(same_parts(RESTING, RESTING + SAYS[:1]), True)
        self.same(same_parts(MIXED, trimmed_part(MIXED)), True)

    def test_unlike_parts(self):
        self.same(same_parts(RESTING, DEAD), False)
        self.same(same_parts(SAYS, ((False, (("say", 1, 0, 1),)), (True, ()))), False)
        self.same(same_parts(SAYS, ((False, (("say", 1, 0, 1), ("say", 1, 2, 1))), (True, ()))), False)
        self.same(same_parts(SAYS, ((False, (("say", 2, 0, 1), ("say", 2, 1, 1))), (True, ()))), False)
        self.same(same_parts(SAYS, ((False, (("hear", 1, 0, 1), ("hear", 1, 1, 1))), (True, ()))), False)
        self.same(same_parts(SAYS, (SAYS[0], (False, ()))), False)
        self.same(same_parts(((True, SAYS[0][1]), SAYS[1]), SAYS), False)

    def test_states_without_events_do_the_same_only_if_rest_is_alike(self):
        part = ((False, (("say", 1, 0, 1), ("say", 1, 1, 2))), (True, ()), (False, ()))
        self.same(least_part(part), part)

    def test_a_difference_far_behind_the_first_states_counts(self):
        self.same(same_parts(LINE, LINE[:253] + (DEAD + RESTING)), False)
        self.same(same_parts(LINE[:253] + ((False, (("hear", 0, 3, 254),)), (True, ())), LINE), True)
        self.same(count_states(LINE), 255)

    def test_least_part(self):
        self.same(least_part(RESTING), RESTING)
        self.same(least_part(SAYS), SAYS)
        self.same(least_part(PAIRS), ((False, (("say", 1, 0, 1), ("say", 1, 1, 1))), (False, (("hear", 1, 0, 2),)),
                                      (True, ())))
        self.same(least_part(ROUND), ((True, (("hear", 0, 3, 0),)),))
        self.same(least_part(LINE), LINE)
        self.same(least_part(FULL), FULL)

    def test_states_of_a_least_part_are_named_in_the_order_of_their_coming(self):
        part = ((False, (("say", 0, 0, 3), ("say", 0, 1, 2))), (True, ()), (True, ()), (False, (("hear", 0, 0, 1),)))
        self.same(least_part(part), ((False, (("say", 0, 0, 1), ("say", 0, 1, 2))), (False, (("hear", 0, 0, 2),)),
                                     (True, ())))

    def test_states_that_never_come_do_not_stay(self):
        self.same(least_part(RESTING + DEAD), RESTING)
        self.same(least_part(RESTING + ((True, (("hear", 0, 0, 0),)),)), RESTING)
        self.same(least_part(MIXED), trimmed_part(MIXED))

    def test_count_states(self):
        self.same(count_states(RESTING), 1)
        self.same(count_states(RESTING + DEAD), 1)
        self.same(count_states(SAYS), 2)
        self.same(count_states(PAIRS), 3)
        self.same(count_states(MIXED), 4)
        self.same(count_states(ROUND), 1)

    def test_all_against_the_words_of_the_document(self):
        for part in ALL:
            unlike = {doing(part, state, len(part)) for state in states_that_come(part)}
            least = least_part(part)
            self.same(len(least), len(unlike), part)
            self.same(count_states(part), len(unlike), part)
            self.same(doing(least, 0, 7), doing(part, 0, 7), part)
            self.same(trimmed_part(least), least, part)
            self.same(same_parts(part, least), True, part)

    def test_all_pairs_against_the_words_of_the_document(self):
        few = ALL[:6] + [part for part in some_parts(500, 3) if len(part) < 4][:60]
        doings = [doing(part, 0, 12) for part in few]
        for one, seen in zip(few, doings):
            for other, others_seen in zip(few, doings):
                self.same(same_parts(one, other), seen == others_seen, (one, other))


if __name__ == "__main__":
    unittest.main()
