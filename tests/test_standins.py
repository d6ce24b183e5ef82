"""Points 23 to 27, 42 and 43: parts that stand in for others, opposites, and parts between and over two."""

import itertools
import random
import unittest

from roletalks import standins as module
from roletalks.cuts import cast_of, cut
from roletalks.errors import NotMade
from roletalks.parts import is_plain, least_part, same_parts, trimmed_part
from roletalks.scripts import has_rounds, ways
from roletalks.shakes import shakes_well
from roletalks.sound import is_sound
from roletalks.standins import common_stand_in, count_says, is_narrower, least_over, narrowest, opposite, stands_in
from roletalks.standins import why_not
from roletalks.troubles import is_calm, keeps_to
from tests.support import TalkCase, some_scripts, some_short_scripts

DONE = ((True, ()),)


def says(*words):
    """A part that says one of some words to actor 1, and is done."""
    return (False, tuple([("say", 1, word, 1) for word in words])), (True, ())


def hears(*words, rest=False):
    """A part that hears one of some words of actor 1, and is done."""
    return (rest, tuple([("hear", 1, word, 1) for word in words])), (True, ())


# Says a word and hears another one again and again; the second one may stop.
ROUND = ((False, (("say", 1, 0, 1),)), (False, (("hear", 1, 0, 0),)))
ROUND_OR_END = ((False, (("say", 1, 0, 1), ("say", 1, 1, 2))), (False, (("hear", 1, 0, 0),)), (True, ()))
# Says words for ever, in rounds of one, two and three.
RINGS = [tuple([(False, (("say", 1, 0, (at + 1) % many),)) for at in range(many)]) for many in (1, 2, 3)]
# States that never come: they both say and hear, or rest and say, or are stuck.
NEVER = ((True, (("hear", 1, 0, 0), ("say", 2, 0, 0))), (True, (("say", 2, 1, 0),)), (False, ()))

# Parts that are not plain, each with a state that comes and is not.
NOT_PLAIN = [
    ((False, ()),), ((True, (("say", 1, 0, 0),)),), ((False, (("hear", 1, 0, 0), ("say", 1, 0, 0))),),
    ((True, (("hear", 1, 0, 0), ("say", 1, 0, 0))),), ((False, (("say", 1, 0, 1),)), (False, ())),
    ((False, (("hear", 1, 0, 1),)), (True, (("say", 1, 0, 0),))), ((False, (("hear", 1, 0, 2),)), (True, ()), (False, ())),
]

INTERFACE = {
    "stands_in": ["one", "other"], "is_narrower": ["one", "other"], "why_not": ["one", "other"],
    "opposite": ["part", "actor"], "narrowest": ["part"], "common_stand_in": ["one", "other"],
    "least_over": ["one", "other"], "count_says": ["part"],
}


def small_states(states):
    """All plain states over two words of actor 1 with so many states."""
    found = [(True, ())]
    for kind in ("say", "hear"):
        for words in ((0,), (1,), (0, 1)):
            for behind in itertools.product(range(states), repeat=len(words)):
                steps = tuple([(kind, 1, word, there) for word, there in zip(words, behind)])
                found.extend([(rest, steps) for rest in (False, True) if kind == "hear" or not rest])
    return found


SMALL = [part for many in (1, 2) for part in itertools.product(small_states(many), repeat=many)]


def some_plain_parts(many, seed, actors=(1,), rests=(False, True)):
    """Plain parts of up to four states, always the same ones for a seed."""
    chance = random.Random(seed)
    return [some_plain_part(chance, actors, rests) for _ in range(many)]


def some_plain_part(chance, actors, rests):
    states = chance.randint(1, 4)
    return tuple([some_plain_state(chance, states, actors, rests) for _ in range(states)])


def some_plain_state(chance, states, actors, rests):
    kind = chance.choice(["say", "say", "hear", "hear", "end"])
    if kind == "end":
        return True, ()
    events = [(kind, other, word) for other in actors for word in (0, 1)]
    chosen = sorted(chance.sample(events, chance.randint(1, 2)))
    return kind == "hear" and chance.choice(rests), tuple([event + (chance.randrange(states),) for event in chosen])


def near(part, seed):
    """The part with a step left out, or one that leads elsewhere, or another rest, so far as it is plain then."""
    chance = random.Random(seed)
    at = chance.randrange(len(part))
    rest, steps = part[at]
    changed = [(rest, steps[1:]), (rest, steps[:-1]), (not rest, steps)]
    changed.append((rest, tuple([step[:3] + (chance.randrange(len(part)),) for step in steps])))
    found = [part[:at] + (state,) + part[at + 1:] for state in changed]
    return [one for one in found if is_plain(one)]


def fits_so(one, other):
    """What point 23 says of a pair of states, but for the states behind them."""
    said = [step[:3] for step in one[1] if step[0] == "say"]
    heard = [step[:3] for step in one[1] if step[0] == "hear"]
    said_by_other = [step[:3] for step in other[1] if step[0] == "say"]
    heard_by_other = [step[:3] for step in other[1] if step[0] == "hear"]
    if one[0] is not other[0]:
        return False
    if said_by_other:
        return len(said) > 0 and all([event in said_by_other for event in said])
    return len(said) == 0 and all([event in heard for event in heard_by_other])


def pairs_behind(one, other, pair):
    """The events that the one says or the other one hears, each with the pair behind it, if both have it."""
    behind_one = {step[:3]: step[3] for step in one[pair[0]][1]}
    behind_other = {step[:3]: step[3] for step in other[pair[1]][1]}
    return {event: (behind_one[event], behind_other[event]) for event in behind_one if event in behind_other}


def can_be_paired(one, other):
    """Whether (0, 0) is left if pairs are taken away that do not fit, or behind which one is taken away."""
    left = {(state, there) for state in range(len(one)) for there in range(len(other))
            if fits_so(one[state], other[there])}
    while True:
        kept = {pair for pair in left if set(pairs_behind(one, other, pair).values()) <= left}
        if kept == left:
            return (0, 0) in left
        left = kept


def first_unfit(one, other):
    """The least of the shortest rows of events to a pair that does not fit, row by row."""
    last = [((), (0, 0))]
    for _ in range(len(one) * len(other) + 1):
        unfit = [row for row, pair in last if not fits_so(one[pair[0]], other[pair[1]])]
        if unfit:
            return min(unfit)
        last = [(row + (event,), there) for row, pair in last
                for event, there in pairs_behind(one, other, pair).items()][:2000]
    return None


class InterfaceTest(TalkCase):
    def test_names_and_arguments(self):
        self.defines(module, INTERFACE)


class StandInTest(TalkCase):
    def check(self, one, other, row):
        self.same(why_not(one, other), row, (one, other))
        self.same(stands_in(one, other), row is None, (one, other))
        self.same(is_narrower(one, other), row is None and not stands_in(other, one), (one, other))

    def test_who_says_less_stands_in(self):
        self.check(says(0), says(0, 1), None)
        self.check(says(0, 1), says(0), ())
        self.check(says(0), says(1), ())
        self.check(says(0, 1, 2), says(0, 1, 2), None)
        self.check(says(2), says(0, 1, 2), None)

    def test_who_hears_more_stands_in(self):
        self.check(hears(0, 1), hears(0), None)
        self.check(hears(0), hears(0, 1), ())
        self.check(hears(0), hears(1), ())
        self.check(hears(0, rest=True), DONE, None)
        self.check(DONE, hears(0, rest=True), ())

    def test_rest_is_alike(self):
        self.check(hears(0, rest=True), hears(0), ())
        self.check(hears(0), hears(0, rest=True), ())
        self.check(DONE, DONE, None)
        self.check(DONE, hears(0), ())
        self.check(hears(0), DONE, ())

    def test_who_says_does_not_stand_in_for_one_who_hears(self):
        for rest in (False, True):
            self.check(says(0), hears(0, rest=rest), ())
            self.check(hears(0, rest=rest), says(0), ())
        self.check(says(0), DONE, ())
        self.check(DONE, says(0), ())

    def test_behind_events(self):
        event = ("say", 1, 0)
        self.check(((False, (event + (1,),)),) + hears(0), ((False, (event + (1,),)),) + DONE, (event,))
        wrong = ((False, (("say", 1, 0, 1),)), (False, (("hear", 1, 0, 2),)), (False, (("say", 1, 0, 0),)))
        self.check(ROUND, wrong, (event, ("hear", 1, 0), event))
        self.check(wrong, ROUND, (event, ("hear", 1, 0), event))

    def test_events_that_the_other_does_not_hear_lead_nowhere(self):
        one = ((False, (("hear", 1, 0, 1), ("hear", 1, 1, 2))), (True, ()), (False, (("say", 2, 5, 2),)))
        self.check(one, hears(0), None)
        self.check(one, hears(1), (("hear", 1, 1),))
        self.check(one, hears(0, 1), (("hear", 1, 1),))

    def test_events_that_the_one_does_not_say_lead_nowhere(self):
        other = ((False, (("say", 1, 0, 1), ("say", 1, 1, 2))), (True, ()), (False, (("hear", 2, 5, 2),)))
        self.check(says(0), other, None)
        self.check(says(1), other, (("say", 1, 1),))
        self.check(says(0, 1), other, (("say", 1, 1),))

    def test_rounds(self):
        self.check(ROUND, ROUND_OR_END, None)
        self.check(ROUND_OR_END, ROUND, ())
        for one in RINGS:
            for other in RINGS:
                self.check(one, other, None)
        self.same(is_narrower(RINGS[0], RINGS[2]), False)
        self.same(is_narrower(ROUND, ROUND_OR_END), True)
        self.same(is_narrower(ROUND, ROUND), False)

    def test_rows_of_more_than_twelve_events(self):
        line = tuple([(False, (("say", 1, 0, at + 1),)) for at in range(254)])
        self.check(line + DONE, RINGS[0], (("say", 1, 0),) * 254)
        self.check(RINGS[2], line + DONE, (("say", 1, 0),) * 254)

    def test_the_least_of_the_shortest_rows(self):
        one = ((False, (("say", 1, 0, 1), ("say", 1, 1, 2), ("say", 1, 2, 3))), (False, (("say", 1, 0, 2),)), (True, ()),
               (True, ()))
        other = ((False, (("say", 1, 0, 1), ("say", 1, 1, 2), ("say", 1, 2, 2))), (False, (("say", 1, 0, 2),)),
                 (False, (("hear", 1, 0, 0),)))
        self.check(one, other, (("say", 1, 1),))

    def test_states_that_never_come_need_not_be_plain(self):
        for one, other in [(says(0), says(0, 1)), (hears(0, 1), hears(0)), (DONE, DONE)]:
            self.check(one + NEVER, other, None)
            self.check(one, other + NEVER, None)

    def test_others(self):
        one = ((False, (("say", 0, 0, 1), ("say", 3, 0, 1))), (True, ()))
        self.check(((False, (("say", 3, 0, 0),)),), one, (("say", 3, 0),))
        self.check(((False, (("say", 0, 0, 1),)), (True, ())), one, None)
        self.check(((False, (("say", 2, 0, 1),)), (True, ())), one, ())

    def test_all_against_the_words_of_the_document(self):
        seen = {}
        parts = some_plain_parts(120, 61) + some_plain_parts(40, 62, (0, 3))
        for at, part in enumerate(parts):
            for other in near(part, at) + parts[at + 1:at + 6]:
                expected = first_unfit(part, other)
                self.check(part, other, expected)
                self.same(stands_in(part, other), can_be_paired(part, other), (part, other))
                key = None if expected is None else len(expected)
                seen[key] = seen.get(key, 0) + 1
        self.assertGreater(min([seen[key] for key in (None, 0, 1, 2)]), 5, seen)

    def test_parts_that_are_not_plain(self):
        for function in (stands_in, why_not, is_narrower, common_stand_in, least_over):
            for part in NOT_PLAIN:
                self.raises(NotMade, {}, function, part, DONE)
                self.raises(NotMade, {}, function, DONE, part)
                self.raises(NotMade, {}, function, part, part)


class OppositeTest(TalkCase):
    def test_by_hand(self):
        self.same(opposite(says(0, 1), 0), ((False, (("hear", 0, 0, 1), ("hear", 0, 1, 1))), (True, ())))
        self.same(opposite(hears(0), 3), ((False, (("say", 3, 0, 1),)), (True, ())))
        self.same(opposite(ROUND, 2), ((False, (("hear", 2, 0, 1),)), (False, (("say", 2, 0, 0),))))

    def test_parts_that_talk_with_nobody(self):
        for actor in (0, 1, 2, 3):
            self.same(opposite(DONE, actor), DONE)
            self.same(opposite(DONE + NEVER, actor), DONE)

    def test_the_part_is_trimmed(self):
        part = ((False, (("say", 1, 0, 3),)), NEVER[0], NEVER[2], (False, (("hear", 1, 1, 4), ("hear", 1, 2, 0))), (True, ()))
        self.same(opposite(part, 0), ((False, (("hear", 0, 0, 1),)), (False, (("say", 0, 1, 2), ("say", 0, 2, 0))), (True, ())))

    def test_an_actor_does_not_talk_with_itself(self):
        self.raises(NotMade, {}, opposite, says(0), 1)
        self.raises(NotMade, {}, opposite, hears(0), 1)
        for actor in (0, 2, 3):
            opposite(says(0), actor)

    def test_one_other_at_most(self):
        for steps in [(("say", 1, 0, 1), ("say", 2, 0, 1)), (("hear", 1, 0, 1), ("hear", 2, 0, 1))]:
            self.raises(NotMade, {}, opposite, ((False, steps), (True, ())), 0)
        self.raises(NotMade, {}, opposite, ((False, (("say", 1, 0, 1),)), (False, (("hear", 2, 0, 0),))), 0)

    def test_rest_where_it_hears(self):
        self.raises(NotMade, {}, opposite, hears(0, rest=True), 0)
        self.raises(NotMade, {}, opposite, ((False, (("say", 1, 0, 1),)), (True, (("hear", 1, 0, 0),))), 0)
        never = ((True, (("hear", 1, 0, 0),)),)
        self.same(opposite(says(0) + never, 0), ((False, (("hear", 0, 0, 1),)), (True, ())))

    def test_parts_that_are_not_plain(self):
        for part in NOT_PLAIN:
            self.raises(NotMade, {}, opposite, part, 0)

    def test_the_opposite_of_the_opposite(self):
        for part in some_plain_parts(60, 63, rests=(False,)):
            self.same(opposite(opposite(part, 0), 1), trimmed_part(part))


class CommonTest(TalkCase):
    def check(self, one, other, part):
        self.same(common_stand_in(one, other), part)
        self.same(common_stand_in(other, one), part)

    def test_what_both_say(self):
        self.check(says(0, 1), says(1, 2), says(1))
        self.check(says(0, 1, 2, 5), says(1, 2, 3, 5), says(1, 2, 5))
        self.check(says(0), says(1), None)
        self.check(says(0), says(0), says(0))

    def test_what_one_of_them_hears(self):
        self.check(hears(0), hears(1), hears(0, 1))
        self.check(hears(0, rest=True), DONE, hears(0, rest=True))
        self.check(hears(0, rest=True), hears(1, 2, rest=True), hears(0, 1, 2, rest=True))
        self.check(hears(0), hears(1, rest=True), None)
        self.check(hears(0), DONE, None)
        self.check(hears(0), says(0), None)
        self.check(says(0), DONE, None)
        self.check(DONE, DONE, DONE)

    def test_behind_what_one_of_them_hears_alone(self):
        one = ((False, (("hear", 1, 0, 1), ("hear", 1, 1, 2))), (False, (("say", 1, 3, 2),)), (True, ()))
        other = ((False, (("hear", 1, 1, 1), ("hear", 2, 1, 2))), (True, ()), (False, (("say", 2, 4, 1),)))
        self.check(one, other, ((False, (("hear", 1, 0, 1), ("hear", 1, 1, 2), ("hear", 2, 1, 3))),
                                (False, (("say", 1, 3, 2),)), (True, ()), (False, (("say", 2, 4, 2),))))

    def test_words_behind_which_there_is_none_are_not_said(self):
        one = ((False, (("say", 1, 0, 1), ("say", 1, 1, 2))), (False, (("hear", 1, 0, 2),)), (True, ()))
        self.check(one, says(0, 1), says(1))
        self.check(one, says(0), None)
        later = ((False, (("say", 1, 5, 1),)),)
        self.check(later + tuple([(rest, tuple([step[:3] + (step[3] + 1,) for step in steps])) for rest, steps in one]),
                   later + ((False, (("say", 1, 0, 2),)), (True, ())), None)

    def test_a_word_that_both_hear_cannot_be_left_out(self):
        one = ((False, (("hear", 1, 0, 1), ("hear", 1, 1, 2))), (False, (("hear", 1, 0, 2),)), (True, ()))
        self.check(one, hears(0, 1), None)
        self.check(one, hears(0), None)
        self.check(one, hears(1), one)

    def test_rounds(self):
        self.check(ROUND, ROUND_OR_END, ROUND)
        self.check(RINGS[1], RINGS[2], RINGS[0])
        # Word 0 leads on and on in both, and to what one alone may do in the end.
        line = tuple([(False, (("say", 1, 0, at + 1),)) for at in range(4)]) + DONE
        self.check(line, RINGS[0], None)
        either = ((False, (("say", 1, 0, 0), ("say", 1, 1, 1))), (True, ()))
        self.check(either, RINGS[1], RINGS[0])
        self.check(either, line, None)

    def test_it_is_a_least_part(self):
        one = ((False, (("say", 1, 0, 1), ("say", 1, 1, 2))), (True, ()), (True, ()))
        self.check(one, one, says(0, 1))
        self.check(one + NEVER, says(0, 1, 2) + NEVER, says(0, 1))

    def test_more_than_255_states_between(self):
        # Parts in rings of 15 and 17 rest in one state each that hears; both hear another word there.
        one, other = [tuple([(False, (("hear", 1, 0, (at + 1) % many),) + (("hear", 1, word, 0),) * (at == 0))
                             for at in range(many)]) for many, word in ((16, 1), (17, 2))]
        part = common_stand_in(one, other)
        self.same(len(part), 16 * 17 + 16 + 17)
        self.same(part[0], (False, (("hear", 1, 0, 1), ("hear", 1, 1, 2), ("hear", 1, 2, 3))))

    def test_none_is_greater(self):
        seen = [0, 0, 0]
        parts = some_plain_parts(60, 64)
        for at, one in enumerate(parts):
            for other in (near(one, at) + parts[at + 1:at + 2])[:2]:
                found = common_stand_in(one, other)
                if found is not None:
                    self.same((stands_in(found, one), stands_in(found, other)), (True, True))
                    self.same(least_part(found), found)
                    seen[2] += 1
                for part in SMALL[at % 5::5]:
                    both = stands_in(part, one) and stands_in(part, other)
                    self.same(found is not None and stands_in(part, found), both, (one, other, part))
                    seen[both] += 1
        self.assertGreater(min(seen), 20, seen)


class OverTest(TalkCase):
    def check(self, one, other, part):
        self.same(least_over(one, other), part)
        self.same(least_over(other, one), part)

    def test_what_one_of_them_says(self):
        self.check(says(0), says(1), says(0, 1))
        self.check(says(0, 2), says(0, 5), says(0, 2, 5))
        self.check(says(0), DONE, None)
        self.check(DONE, DONE, DONE)

    def test_what_both_hear(self):
        self.check(hears(0, 1), hears(1, 2), hears(1))
        self.check(hears(0), hears(1), None)
        self.check(hears(0), DONE, None)
        self.check(hears(0), says(0), None)

    def test_behind_what_one_of_them_says_alone(self):
        one = ((False, (("say", 1, 0, 1), ("say", 1, 1, 2))), (False, (("hear", 1, 3, 2),)), (True, ()))
        self.check(one, says(1, 2), ((False, (("say", 1, 0, 1), ("say", 1, 1, 2), ("say", 1, 2, 2))),
                                     (False, (("hear", 1, 3, 2),)), (True, ())))
        self.check(one, says(0), None)

    def test_words_behind_which_there_is_none_are_not_heard(self):
        one = ((False, (("hear", 1, 0, 1), ("hear", 1, 1, 2))), (False, (("hear", 1, 0, 2),)), (True, ()))
        self.check(one, hears(0, 1), hears(1))
        self.check(one, hears(0), None)

    def test_the_actor_with_whom_they_talk_stays(self):
        for other in (0, 1, 2, 3):
            one, two = [((False, (("say", other, word, 1),)), (False, (("hear", other, 3, 2),)), (True, ()))
                        for word in (0, 1)]
            self.check(one, two, ((False, (("say", other, 0, 1), ("say", other, 1, 1))), (False, (("hear", other, 3, 2),)),
                                  (True, ())))

    def test_rounds(self):
        self.check(ROUND, ROUND_OR_END, ROUND_OR_END)
        self.check(RINGS[1], RINGS[2], RINGS[0])

    def test_it_is_a_least_part(self):
        one = ((False, (("say", 1, 0, 1), ("say", 1, 1, 2))), (True, ()), (True, ()))
        self.check(one, one, says(0, 1))
        self.check(one + NEVER, says(2) + NEVER, says(0, 1, 2))

    def test_not_such_parts(self):
        two = ((False, (("say", 1, 0, 1), ("say", 2, 0, 1))), (True, ()))
        for part in [two, hears(0, rest=True), ((False, (("say", 1, 0, 1),)), (True, (("hear", 1, 0, 1),)))]:
            self.raises(NotMade, {}, least_over, part, DONE)
            self.raises(NotMade, {}, least_over, DONE, part)
            self.raises(NotMade, {}, least_over, part, part)

    def test_unlike_others(self):
        with_two = ((False, (("say", 2, 0, 1),)), (True, ()))
        self.raises(NotMade, {}, least_over, says(0), with_two)
        self.raises(NotMade, {}, least_over, with_two, says(0))
        self.raises(NotMade, {}, least_over, ((False, (("hear", 0, 0, 1),)), (True, ())), says(0))
        # Who talks with nobody talks with no unlike other.
        self.same(least_over(DONE, with_two), None)

    def test_none_is_less(self):
        seen = [0, 0, 0]
        parts = some_plain_parts(60, 65, rests=(False,))
        for at, one in enumerate(parts):
            for other in (near(one, at) + parts[at + 1:at + 2])[:2]:
                if all([not state[0] or not state[1] for state in trimmed_part(other)]):
                    found = least_over(one, other)
                    if found is not None:
                        self.same((stands_in(one, found), stands_in(other, found)), (True, True))
                        self.same(least_part(found), found)
                        seen[2] += 1
                    for part in SMALL[at % 5::5]:
                        both = stands_in(one, part) and stands_in(other, part)
                        self.same(found is not None and stands_in(found, part), both, (one, other, part))
                        seen[both] += 1
        self.assertGreater(min(seen), 20, seen)


class NarrowTest(TalkCase):
    def test_narrowest(self):
        self.same(narrowest(says(0, 1, 2)), says(0))
        self.same(narrowest(hears(0, 1, 2)), hears(0, 1, 2))
        self.same(narrowest(hears(0, rest=True)), hears(0, rest=True))
        self.same(narrowest(DONE), DONE)
        self.same(narrowest(ROUND_OR_END), ROUND)
        self.same(narrowest(((False, (("say", 0, 5, 1), ("say", 1, 0, 2))), (True, ()), (False, (("say", 1, 0, 0),)))),
                  ((False, (("say", 0, 5, 1),)), (True, ())))

    def test_narrowest_is_a_least_part(self):
        part = ((False, (("say", 1, 0, 2), ("say", 1, 1, 1))), (False, (("hear", 1, 0, 1),)), (False, (("say", 1, 0, 0),)))
        self.same(narrowest(part + NEVER), ((False, (("say", 1, 0, 0),)),))

    def test_count_says(self):
        for part, many in [(says(0, 1, 2), 3), (hears(0, 1), 0), (DONE, 0), (ROUND_OR_END, 2), (ROUND, 1),
                           (says(0) + NEVER, 1), (RINGS[2], 3), (DONE + NEVER, 0)]:
            self.same(count_says(part), many)

    def test_count_says_counts_states_that_do_the_same_each(self):
        self.same(count_says(((False, (("say", 1, 0, 1), ("say", 1, 1, 2))), (False, (("say", 1, 0, 2),)), (True, ()))), 3)

    def test_parts_that_are_not_plain(self):
        for part in NOT_PLAIN:
            self.raises(NotMade, {}, narrowest, part)
            self.raises(NotMade, {}, count_says, part)

    def test_the_narrowest_part_stands_in(self):
        for part in some_plain_parts(80, 66):
            found = narrowest(part)
            self.same(stands_in(found, part), True)
            self.same(least_part(found), found)
            self.same(is_narrower(found, part), not same_parts(found, part))
            self.assertLessEqual(count_says(found), count_says(part))
            self.same([state for state in found if len(state[1]) > 1 and state[1][0][0] == "say"], [])


class KnownTest(TalkCase):
    def test_a_part_that_stands_in_keeps_the_cast_calm(self):
        tried = 0
        for script in some_short_scripts(150, 67):
            cast = cast_of(script)
            if is_sound(script) and not ways(script, 7) and all([is_plain(part) for part in cast]):
                for actor, part in enumerate(cast):
                    for other in self.that_stand_in(part, actor, script[0]):
                        self.same(stands_in(other, part), True)
                        changed = cast[:actor] + (other,) + cast[actor + 1:]
                        for size in (1, 2, 3):
                            self.same(is_calm(changed, size), True, (script, changed))
                            self.same(keeps_to(script, changed, size, 12), True, (script, changed))
                        tried += other != part
        self.assertGreater(tried, 20)

    def that_stand_in(self, part, actor, actors):
        yield narrowest(part)
        more = tuple([("hear", other, 3, 0) for other in range(actors) if other != actor])
        yield tuple([(rest, tuple(sorted(steps + (() if [step for step in steps if step[0] == "say"] else more))))
                     for rest, steps in part])

    def test_who_stands_in_shakes_hands_well_with_the_opposite(self):
        seen = [0, 0]
        parts = some_plain_parts(100, 68, rests=(False,))
        for at, one in enumerate(parts):
            for other in near(one, at) + parts[at + 1:at + 4] + [one, narrowest(one)]:
                if all([not state[0] or not state[1] for state in trimmed_part(other)]):
                    well = shakes_well(one, opposite(other, 0))
                    self.same(stands_in(one, other), well, (one, other))
                    seen[well] += 1
        self.assertGreater(min(seen), 50)

    def test_scripts_of_two_actors(self):
        rounds = [0, 0]
        for script in some_scripts(300, 69) + some_short_scripts(100, 70):
            if script[0] == 2:
                self.same(is_sound(script), True)
                self.same(opposite(cut(script, 0), 0), cut(script, 1))
                self.same(opposite(cut(script, 1), 1), cut(script, 0))
                self.same(shakes_well(*cast_of(script)), True)
                rounds[has_rounds(script)] += 1
        self.assertGreater(min(rounds), 20)


if __name__ == "__main__":
    unittest.main()
