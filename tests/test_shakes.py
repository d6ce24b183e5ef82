"""Points 28, 29 and 43: two parts that shake hands, and their clashes."""

import unittest

from roletalks import shakes as module
from roletalks.cuts import cast_of
from roletalks.shakes import first_clash, shake_pairs, shake_rows, shaken, shakes_well
from tests.support import TalkCase, some_casts, some_scripts

DONE = ((True, ()),)
STUCK = ((False, ()),)
ONE_TALK = cast_of((2, ((0, ((1, 0, 1),)), None)))
ASKED = cast_of((2, ((0, ((1, 0, 1), (1, 1, 2))), (1, ((0, 2, 0),)), None)))
# Actor 0 says or hears at once, actor 1 too; each word leads elsewhere.
EITHER = (((False, (("hear", 1, 0, 2), ("say", 1, 0, 1))), (True, ()), (True, ())),
          ((False, (("hear", 0, 0, 2), ("say", 0, 0, 1))), (True, ()), (True, ())))
# Word 0 for ever, or word 1 and on to what is no clash, "stuck" or "deaf".
ROUNDS = ((False, (("say", 1, 0, 0), ("say", 1, 1, 1))), (True, ())), ((False, (("hear", 0, 0, 0), ("hear", 0, 1, 1))), (True, ()))

INTERFACE = {
    "shaken": ["one", "other", "talks"], "shake_pairs": ["one", "other"], "shake_rows": ["one", "other", "many"],
    "first_clash": ["one", "other"], "shakes_well": ["one", "other"],
}


def says(*words):
    """A part of actor 0 that says one of some words, and is done."""
    return (False, tuple([("say", 1, word, 1) for word in words])), (True, ())


def hears(*words, rest=False):
    """A part of actor 1 that hears one of some words, and is done."""
    return (rest, tuple([("hear", 0, word, 1) for word in words])), (True, ())


def talks_of(one, other, pair):
    """Each talk that can be at a pair of states, and the pair behind it, from all talks that there are."""
    found = []
    for talk in [(speaker, 1 - speaker, word) for speaker in (0, 1) for word in range(6)]:
        speaker, hearer, word = talk
        parts = (one, other)
        said = [step[3] for step in parts[speaker][pair[speaker]][1] if step[:3] == ("say", hearer, word)]
        heard = [step[3] for step in parts[hearer][pair[hearer]][1] if step[:3] == ("hear", speaker, word)]
        if said and heard:
            found.append((talk, (said[0], heard[0]) if speaker == 0 else (heard[0], said[0])))
    return found


def clash_of(one, other, pair):
    states = (one[pair[0]], other[pair[1]])
    said = [(speaker, step[2]) for speaker in (0, 1) for step in states[speaker][1] if step[0] == "say"]
    for speaker, word in said:
        if ("hear", speaker, word) not in [step[:3] for step in states[1 - speaker][1]]:
            return "deaf"
    return None if said or all([state[0] for state in states]) else "stuck"


def all_rows(one, other, many):
    """The rows of many talks with the pairs behind them, length by length, by the words of the document."""
    found = [((), (0, 0))]
    for _ in range(many):
        found = [(row + (talk,), there) for row, pair in found for talk, there in talks_of(one, other, pair)]
    return found


class InterfaceTest(TalkCase):
    def test_names_and_arguments(self):
        self.defines(module, INTERFACE)


class ShakeTest(TalkCase):
    def test_both_go_on_at_once(self):
        self.same(shaken(*ONE_TALK, ()), (0, 0))
        self.same(shaken(*ONE_TALK, ((0, 1, 0),)), (1, 1))
        self.same(shaken(*ASKED, ((0, 1, 0), (1, 0, 2))), (0, 0))
        self.same(shaken(*ASKED, ((0, 1, 0), (1, 0, 2), (0, 1, 1))), (2, 2))
        self.same(shaken(*EITHER, ((0, 1, 0),)), (1, 2))
        self.same(shaken(*EITHER, ((1, 0, 0),)), (2, 1))

    def test_rows_that_cannot_be(self):
        for cast, talks in [(ONE_TALK, ((0, 1, 1),)), (ONE_TALK, ((1, 0, 0),)), (ONE_TALK, ((0, 1, 0),) * 2),
                            (ASKED, ((0, 1, 0), (0, 1, 1))), ((DONE, DONE), ((0, 1, 5),)), ((says(0), DONE), ((0, 1, 0),)),
                            ((DONE, hears(0)), ((0, 1, 0),)), (EITHER, ((0, 1, 0), (1, 0, 0)))]:
            self.same(shaken(*cast, talks), None)

    def test_twelve_talks(self):
        row = ((0, 1, 0), (1, 0, 2)) * 6
        self.same(shaken(*ASKED, row), (0, 0))
        self.same(shaken(*ASKED, row[:11]), (1, 1))
        self.same(shake_rows(*ASKED, 12), [row])
        self.same(shake_rows(*ASKED, 11), [row[:10] + ((0, 1, 0),), row[:10] + ((0, 1, 1),)])

    def test_pairs(self):
        self.same(shake_pairs(*ONE_TALK), [(0, 0), (1, 1)])
        self.same(shake_pairs(*ASKED), [(0, 0), (1, 1), (2, 2)])
        self.same(shake_pairs(*EITHER), [(0, 0), (1, 2), (2, 1)])
        self.same(shake_pairs(DONE, DONE), [(0, 0)])
        self.same(shake_pairs(*ROUNDS), [(0, 0), (1, 1)])
        rings = [tuple([(False, ((kind, other, 0, (at + 1) % many),)) for at in range(many)])
                 for kind, other, many in (("say", 1, 2), ("hear", 0, 3))]
        self.same(shake_pairs(*rings), [(0, 0), (0, 1), (0, 2), (1, 0), (1, 1), (1, 2)])

    def test_rows(self):
        self.same(shake_rows(*ONE_TALK, 0), [()])
        self.same(shake_rows(*ONE_TALK, 1), [((0, 1, 0),)])
        self.same(shake_rows(*ONE_TALK, 2), [])
        self.same(shake_rows(*EITHER, 1), [((0, 1, 0),), ((1, 0, 0),)])
        self.same(shake_rows(*ROUNDS, 3), [((0, 1, 0),) * 3, ((0, 1, 0),) * 2 + ((0, 1, 1),)])
        self.same(shake_rows(DONE, DONE, 12), [])

    def test_lists_are_new(self):
        shake_pairs(*ONE_TALK).append(0)
        shake_rows(*ONE_TALK, 1).append(0)
        self.same(shake_pairs(*ONE_TALK), [(0, 0), (1, 1)])
        self.same(shake_rows(*ONE_TALK, 1), [((0, 1, 0),)])

    def test_many_pairs(self):
        rings = [tuple([(False, ((kind, other, 0, (at + 1) % many),)) for at in range(many)])
                 for kind, other, many in (("say", 1, 63), ("hear", 0, 64))]
        self.same(len(shake_pairs(*rings)), 63 * 64)
        self.same(shakes_well(*rings), True)


class ClashTest(TalkCase):
    def check(self, one, other, clash):
        self.same(first_clash(one, other), clash, (one, other))
        self.same(shakes_well(one, other), clash is None, (one, other))

    def test_no_clash(self):
        for cast in (ONE_TALK, ASKED, (DONE, DONE), EITHER, ROUNDS, (says(0), hears(0, 1)), (says(2), hears(2, rest=True)),
                     (DONE, hears(0, rest=True))):
            self.check(*cast, None)

    def test_deaf(self):
        self.check(says(0, 1), hears(0), ("deaf", ()))
        self.check(says(0), DONE, ("deaf", ()))
        self.check(says(0), hears(1), ("deaf", ()))
        self.check(DONE, ((True, (("say", 0, 3, 0),)),), ("deaf", ()))
        self.check(says(0), ((False, (("say", 0, 0, 0),)),), ("deaf", ()))
        self.check(says(0), ((False, (("hear", 0, 0, 0), ("say", 0, 0, 0))),), ("deaf", ()))

    def test_stuck(self):
        self.check(STUCK, DONE, ("stuck", ()))
        self.check(DONE, STUCK, ("stuck", ()))
        self.check(DONE, hears(0), ("stuck", ()))
        self.check(((False, (("hear", 1, 0, 0),)),), hears(0), ("stuck", ()))
        self.check(says(0), ((False, (("hear", 0, 0, 1),)), (False, ())), ("stuck", ((0, 1, 0),)))

    def test_who_may_rest_may_say(self):
        self.check(((True, (("say", 1, 0, 0),)),), ((True, (("hear", 0, 0, 0),)),), None)
        self.check(((True, (("say", 1, 0, 0),)),), ((False, (("hear", 0, 0, 0),)),), None)

    def test_states_that_never_come_are_no_clash(self):
        never = ((False, ()), (False, (("say", 1, 5, 0),)))
        self.check(says(0) + never, hears(0), None)

    def test_the_least_of_the_shortest_rows(self):
        one = ((False, (("say", 1, 0, 1), ("say", 1, 1, 2), ("say", 1, 2, 2))), (False, (("say", 1, 0, 3),)), (True, ()), (True, ()))
        other = ((False, (("hear", 0, 0, 1), ("hear", 0, 1, 2), ("hear", 0, 2, 2))), (False, (("hear", 0, 0, 2),)), (False, ()))
        self.check(one, other, ("stuck", ((0, 1, 1),)))
        self.check(one[:2] + (STUCK[0], DONE[0]), other[:2] + DONE, ("stuck", ((0, 1, 1),)))
        both = (((False, (("hear", 1, 0, 1), ("say", 1, 5, 1))), (True, (("say", 1, 0, 0),))),
                ((False, (("hear", 0, 5, 1), ("say", 0, 0, 1))), (True, ())))
        self.check(*both, ("deaf", ((0, 1, 5),)))

    def test_rows_of_more_than_twelve_talks(self):
        line = tuple([(False, (("say", 1, 0, at + 1),)) for at in range(254)]) + DONE
        self.check(line, ((False, (("hear", 0, 0, 0),)),), ("stuck", ((0, 1, 0),) * 254))
        self.check(line, ((True, (("hear", 0, 0, 0),)),), None)


class AllTest(TalkCase):
    def test_all_against_the_words_of_the_document(self):
        seen = {}
        casts = [cast for cast in some_casts(500, 71) if len(cast) == 2]
        for script in some_scripts(150, 72):
            if script[0] == 2:
                one, other = cast_of(script)
                casts.extend([(one, other), (one, casts[len(script[1])][1]), (casts[len(script[1])][0], other)])
        for one, other in casts:
            pairs = {}
            for many in range(6):
                found = all_rows(one, other, many)
                self.same(shake_rows(one, other, many), sorted([row for row, _ in found]))
                for row, pair in found:
                    pairs.setdefault(pair, row)
                    self.same(shaken(one, other, row), pair)
            clashes = sorted([(len(row), row, clash_of(one, other, pair)) for pair, row in pairs.items()
                              if clash_of(one, other, pair) is not None])
            expected = (clashes[0][2], clashes[0][1]) if clashes else None
            # Of these casts none has a pair that needs more than five talks, or a clash alone behind these.
            self.same(first_clash(one, other), expected, (one, other))
            self.same(shake_pairs(one, other), sorted(pairs))
            key = expected and (expected[0], len(expected[1]) > 0)
            seen[key] = seen.get(key, 0) + 1
        self.assertEqual(len(seen), 5, seen)


if __name__ == "__main__":
    unittest.main()
