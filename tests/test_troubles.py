"""Points 20 to 22, and 41: trouble that casts come to, and casts that keep to a script or leave it."""

import unittest

from roletalks import troubles as module
from roletalks.cuts import cast_of
from roletalks.errors import TooMany
from roletalks.scripts import ways
from roletalks.sound import fault, is_sound
from roletalks.stage import count_positions, rows
from roletalks.troubles import first_off, first_trouble, is_calm, keeps_to, troubles
from roletalks.views import fits, views
from tests import test_stage
from tests.support import TalkCase, some_casts, some_scripts, some_short_scripts
from tests.test_stage import DONE, LINE_OF_3000, LINE_OF_3001, Show, all_doings, choice

# Actor 1 is silent, and actor 0 waits for a word; actor 1 says it, or another one, or is done.
WAITS = ((False, (("hear", 1, 0, 1),)), (True, ()))
SAYS = ((False, (("say", 0, 0, 1),)), (True, ()))
SAYS_OTHER = ((False, (("say", 0, 5, 1),)), (True, ()))
SAYS_ANY = ((False, (("say", 0, 0, 1), ("say", 0, 5, 1))), (True, ()))
# Comes to "stuck" after one word, to "unread" after two: actor 0 says one word too many and is done.
BOTH = (((False, (("say", 1, 0, 1), ("say", 1, 1, 2))), (True, (("say", 1, 2, 2),)), (True, ())),
        ((False, (("hear", 0, 0, 2), ("hear", 0, 1, 1))), (False, ()), (True, ())))

ASKED = (2, ((0, ((1, 0, 1), (1, 1, 2))), (1, ((0, 2, 0),)), None))
TOLD = (3, ((0, ((1, 0, 1), (1, 1, 2))), (1, ((2, 0, 3),)), (1, ((2, 1, 3),)), None))
GUESSED = (3, ((0, ((1, 0, 1), (1, 1, 2))), (2, ((1, 0, 3),)), (2, ((1, 1, 3),)), None))
ENDLESS = (2, ((0, ((1, 0, 0), (1, 1, 0))),))
FOUR = (4, ((0, ((1, 0, 1),)), (2, ((3, 0, 2),)), None))
# Actor 0 says any word to anybody for ever, but never the last word to actor 1.
ANYTHING = (4, ((0, tuple([(hearer, word, 0) for hearer in (1, 2, 3) for word in range(6)
                           if (hearer, word) != (1, 5)])),))

INTERFACE = {
    "troubles": ["cast", "size"], "is_calm": ["cast", "size"], "first_trouble": ["cast", "size"],
    "keeps_to": ["script", "cast", "size", "many"], "first_off": ["script", "cast", "size", "many"],
}


class InterfaceTest(TalkCase):
    def test_names_and_arguments(self):
        self.defines(module, INTERFACE)


class TroubleTest(TalkCase):
    def check(self, cast, size, kinds, first):
        self.same(troubles(cast, size), kinds, cast)
        self.same(is_calm(cast, size), kinds == (), cast)
        self.same(first_trouble(cast, size), first, cast)

    def test_calm_casts(self):
        for cast in [(DONE, DONE), (DONE,) * 4, (WAITS, SAYS), cast_of(ASKED), cast_of(TOLD), cast_of(FOUR),
                     cast_of(ENDLESS)]:
            for size in (1, 2, 3):
                self.check(cast, size, (), None)

    def test_a_letter_that_nobody_reads(self):
        say = (1, "say", 0, 0)
        for size in (1, 2, 3):
            self.check((DONE, SAYS), size, ("unread",), ("unread", (say,)))
            self.check((WAITS, SAYS_OTHER), size, ("unread",), ("unread", ((1, "say", 0, 5),)))

    def test_letters_left_are_unread_whether_all_may_rest_or_not(self):
        self.check((DONE, ((False, (("say", 0, 0, 1),)), (False, ()))), 1, ("unread",), ("unread", ((1, "say", 0, 0),)))

    def test_who_waits_for_ever_is_stuck(self):
        self.check((WAITS, DONE), 1, ("stuck",), ("stuck", ()))
        self.check((DONE, ((False, ()),)), 3, ("stuck",), ("stuck", ()))
        self.check((((True, (("hear", 1, 0, 0),)),), DONE), 2, (), None)
        waits_too = ((False, (("hear", 0, 0, 1),)), (True, ()))
        self.check((WAITS, waits_too, DONE), 2, ("stuck",), ("stuck", ()))

    def test_a_full_box_makes_trouble_in_a_small_box_alone(self):
        cast = (((False, (("say", 1, 0, 1),)), (False, (("say", 1, 0, 2),)), (False, (("say", 2, 0, 3),)), (True, ())),
                ((False, (("hear", 2, 0, 1),)), (False, (("hear", 0, 0, 2),)), (False, (("hear", 0, 0, 3),)), (True, ())),
                ((False, (("hear", 0, 0, 1),)), (False, (("say", 1, 0, 2),)), (True, ())))
        self.check(cast, 1, ("unread",), ("unread", ((0, "say", 1, 0),)))
        self.check(cast, 2, (), None)

    def test_both_kinds(self):
        self.check((WAITS, ((False, (("say", 0, 5, 2), ("say", 2, 0, 1))), (True, ()), (True, ())),
                    ((True, (("hear", 1, 0, 0),)),)), 1, ("stuck", "unread"), ("unread", ((1, "say", 0, 5),)))
        self.check(BOTH, 1, ("stuck", "unread"), ("stuck", ((0, "say", 1, 1), (1, "hear", 0, 1))))

    def test_the_least_of_the_shortest_rows(self):
        cast = (DONE, SAYS_ANY)
        self.check(cast, 1, ("unread",), ("unread", ((1, "say", 0, 0),)))
        # The way over word 0 is longer, though it is less.
        longer = ((False, (("say", 0, 0, 1), ("say", 0, 5, 2))), (False, (("say", 0, 0, 2),)), (True, ()))
        self.check((DONE, longer), 3, ("unread",), ("unread", ((1, "say", 0, 5),)))
        both_say = ((False, (("say", 1, 3, 1),)), (True, ()))
        self.check((both_say, SAYS), 1, ("unread",), ("unread", ((0, "say", 1, 3), (1, "say", 0, 0))))

    def test_rows_of_more_than_forty_doings(self):
        words = tuple([(False, (("say", 1, 0, at + 1),)) for at in range(60)])
        heard = tuple([(False, (("hear", 0, 0, at + 1),)) for at in range(60)])
        kind, row = first_trouble((words + ((True, ()),), heard + ((False, ()),)), 1)
        self.same(kind, "stuck")
        self.same(row, ((0, "say", 1, 0), (1, "hear", 0, 0)) * 60)

    def test_all_against_the_words_of_the_document(self):
        seen = {}
        for cast in test_stage.ALL + some_casts(80, 51):
            for size in (1, 2, 3):
                found = self.found_troubles(cast, size)
                if found is not None:
                    kinds = tuple(sorted({kind for kind, _ in found}))
                    rows_first = sorted([(len(row), row, kind) for kind, row in found])
                    first = None if not found else (rows_first[0][2], rows_first[0][1])
                    self.check(cast, size, kinds, first)
                    seen[kinds] = seen.get(kinds, 0) + 1
        self.assertEqual(sorted(seen), [(), ("stuck",), ("stuck", "unread"), ("unread",)])
        self.assertGreater(min(seen.values()), 1)

    def found_troubles(self, cast, size):
        """Kinds of trouble with a row, for each position; rows go on in ascending order, length by length."""
        found = []
        known = {}
        last = [()]
        while last:
            longer = []
            for row in last:
                show = Show(cast, size, row)
                if show.done and show.position() not in known:
                    known[show.position()] = True
                    behind = [row + (doing,) for doing in all_doings(cast)]
                    longer.extend(behind)
                    if not any([Show(cast, size, later).done for later in behind]) and not show.is_over():
                        found.append(("unread" if show.position()[1] else "stuck", row))
            last = longer
            if len(known) > 150:
                return None
        return found

    def test_more_than_3000_positions(self):
        self.same(count_positions(LINE_OF_3000, 1), 3000)
        self.check(LINE_OF_3000, 1, (), None)
        for function in (troubles, is_calm, first_trouble):
            self.raises(TooMany, {"most": 3000}, function, LINE_OF_3001, 1)


class OffTest(TalkCase):
    def check(self, script, cast, size, many, row):
        self.same(first_off(script, cast, size, many), row, (script, cast))
        self.same(keeps_to(script, cast, size, many), row is None, (script, cast))

    def test_sound_scripts(self):
        for script in (ASKED, TOLD, FOUR, (2, (None,))):
            for size in (1, 2, 3):
                for many in (0, 1, 5, 12):
                    self.check(script, cast_of(script), size, many, None)

    def test_a_script_that_is_not_sound(self):
        row = ((0, "say", 1, 0), (2, "say", 1, 1))
        for many in (2, 3, 12):
            self.check(GUESSED, cast_of(GUESSED), 1, many, row)
        self.check(GUESSED, cast_of(GUESSED), 1, 1, None)
        self.check(GUESSED, cast_of(GUESSED), 1, 0, None)

    def test_another_cast(self):
        say = (0, "say", 1, 0)
        hear = (1, "hear", 0, 0)
        self.check(ASKED, (DONE, DONE), 1, 12, None)
        self.check(ASKED, (DONE, SAYS), 1, 12, ((1, "say", 0, 0),))
        self.check(ASKED, (DONE, SAYS), 1, 0, None)
        says_twice = ((False, (("say", 1, 0, 1),)), (False, (("say", 1, 0, 2),)), (True, ()))
        hears = ((True, (("hear", 0, 0, 0),)),)
        self.check(ASKED, (says_twice, hears), 1, 12, (say, hear, say))
        self.check(ASKED, (says_twice, hears), 2, 12, (say, say))
        self.check(ASKED, (says_twice, hears), 2, 1, None)
        self.check(ENDLESS, (says_twice, hears), 2, 12, None)

    def test_twelve_doings(self):
        line = tuple([(False, (("say", 1, 0, at + 1),)) for at in range(6)]) + ((False, (("say", 1, 5, 7),)), (True, ()))
        hears = ((True, (("hear", 0, 0, 0), ("hear", 0, 5, 0))),)
        doing = ((0, "say", 1, 0), (1, "hear", 0, 0))
        self.check(ENDLESS, (line, hears), 1, 12, None)
        short = line[:5] + ((False, (("say", 1, 5, 7),)),) + line[6:]
        self.check(ENDLESS, (short, hears), 1, 12, doing * 5 + ((0, "say", 1, 5),))
        self.check(ENDLESS, (short, hears), 1, 11, doing * 5 + ((0, "say", 1, 5),))
        self.check(ENDLESS, (short, hears), 1, 10, None)
        twice = short[:5] + ((False, (("say", 1, 1, 6),)), (False, (("say", 1, 5, 7),)), (True, ()))
        self.check(ENDLESS, (twice, ((True, (("hear", 0, 0, 0),)),)), 2, 12, doing[:1] + (doing[0], doing[1]) * 4
                   + ((0, "say", 1, 1),) + ((1, "hear", 0, 0), (0, "say", 1, 5)))

    def test_the_least_of_the_shortest_rows(self):
        cast = (((False, (("say", 1, 5, 1), ("say", 2, 0, 1))), (True, ())), DONE,
                ((False, (("say", 1, 0, 0),)),))
        self.check(TOLD, cast, 1, 12, ((0, "say", 1, 5),))
        longer = (((False, (("say", 1, 0, 1),)), (False, (("say", 1, 0, 2),)), (True, ())), DONE, SAYS)
        self.check(TOLD, longer, 2, 12, ((2, "say", 0, 0),))

    def test_all_against_the_words_of_the_document(self):
        lengths = {}
        scripts = [script for script in some_scripts(90, 52) + some_short_scripts(90, 53)]
        casts = some_casts(90, 54)
        for at, script in enumerate(scripts):
            others = [cast for cast in casts if len(cast) == script[0]]
            for cast in (cast_of(script), others[at % len(others)], cast_of(scripts[at - 1])):
                if len(cast) == script[0]:
                    size = at % 3 + 1
                    row = self.found_off(script, cast, size, 4)
                    if row != "too many":
                        self.check(script, cast, size, 4, row)
                        lengths[row and len(row)] = lengths.get(row and len(row), 0) + 1
        for length in (None, 1, 2, 3):
            self.assertGreater(lengths[length], 5, lengths)

    def found_off(self, script, cast, size, most):
        for many in range(most + 1):
            try:
                found = rows(cast, size, many)
            except TooMany:
                return "too many"
            off = [row for row in found if not fits(script, row)]
            if off:
                return min(off)
        return None


def tree(levels, behind):
    """A part of actor 0 that says one word of each level, one level behind the other, and then goes on."""
    return tuple([choice(words, at + 1) for at, words in enumerate(levels)]) + behind


def with_one_more(part):
    """A part that may say one word more at first, and is done then."""
    rest, steps = part[0]
    return ((rest, tuple(sorted(steps + (("say", 2, 5, len(part)),)))),) + part[1:] + ((True, ()),)


# 8 + 8 * 17 + 8 * 17 * 3 + 8 * 17 * 3 * 6 are 3000 rows of one to four words, no two with the same views.
LEVELS = ([(1, 5), (2, 3)], [(1, 5), (2, 6), (3, 6)], [(3, 3)], [(3, 6)])
OF_3000 = tree(LEVELS, ((True, ()),))
OF_3001 = with_one_more(OF_3000)
# Behind them comes a word that does not fit.
OFF_3000 = tree(LEVELS, ((False, (("say", 1, 5, 5),)), (True, ())))
OFF_3001 = with_one_more(OFF_3000)
# Such a word beside the last ones, of which there are 8 * 17 * 3 * 7.
OFF_AMONG = OF_3000[:3] + ((False, (("say", 1, 5, 4),) + OF_3000[3][1]), (True, ()))


class TooManyTest(TalkCase):
    def cast(self, part):
        return part, DONE, DONE, DONE

    def check_many(self, script, cast, size, many):
        for function in (first_off, keeps_to):
            self.raises(TooMany, {"most": 3000}, function, script, cast, size, many)

    def test_how_many_views_come(self):
        for part, expected in [(OF_3000, 3000), (OF_3001, 3001)]:
            found = [{views(self.cast(part), row) for row in self.many_rows(part, many)} for many in range(1, 5)]
            self.assertEqual(sum([len(one) for one in found]), expected)

    def many_rows(self, part, many):
        """The rows of many words that actor 0 says; boxes of size 3 take all of them."""
        found = [((), 0)]
        for _ in range(many):
            found = [(row + ((0,) + step[:3],), step[3]) for row, at in found for step in part[at][1]]
        return [row for row, _ in found]

    def test_3000_views_and_one_more(self):
        for many in (4, 5, 12):
            self.same(first_off(ANYTHING, self.cast(OF_3000), 3, many), None)
            self.same(keeps_to(ANYTHING, self.cast(OF_3000), 3, many), True)
            self.check_many(ANYTHING, self.cast(OF_3001), 3, many)
        self.same(first_off(ANYTHING, self.cast(OF_3001), 3, 3), None)
        self.same(keeps_to(ANYTHING, self.cast(OF_3001), 3, 3), True)

    def check_off(self, part, many, words):
        row = tuple([(0, "say", hearer, word) for hearer, word in words])
        self.same(first_off(ANYTHING, self.cast(part), 3, many), row)
        self.same(keeps_to(ANYTHING, self.cast(part), 3, many), False)

    def test_off_behind_3000_views_and_one_more(self):
        for many in (5, 6, 12):
            self.check_off(OFF_3000, many, ((1, 0), (1, 0), (3, 0), (3, 0), (1, 5)))
            self.check_many(ANYTHING, self.cast(OFF_3001), 3, many)
        self.same(first_off(ANYTHING, self.cast(OFF_3000), 3, 4), None)
        self.check_many(ANYTHING, self.cast(OFF_3001), 3, 4)
        self.same(first_off(ANYTHING, self.cast(OFF_3001), 3, 3), None)

    def test_rows_as_long_as_the_first_ones_off_do_not_count(self):
        for many in (4, 5, 12):
            self.check_off(OFF_AMONG, many, ((1, 0), (1, 0), (3, 0), (1, 5)))
            self.check_off(with_one_more(OFF_AMONG), many, ((1, 0), (1, 0), (3, 0), (1, 5)))

    def test_many_rows_of_few_views(self):
        # Two actors talk for ever beside two others: there are far more rows than unlike views.
        script = (4, ((0, ((1, 0, 1),)), (2, ((3, 0, 0),))))
        with self.assertRaises(TooMany):
            rows(cast_of(script), 3, 12)
        self.same(first_off(script, cast_of(script), 3, 12), None)
        self.same(keeps_to(script, cast_of(script), 3, 12), True)


class KnownTest(TalkCase):
    """Point 41, for scripts without rounds whose rows have at most twelve doings."""

    def test_the_cast_keeps_to_the_script_just_if_it_is_sound(self):
        seen = {}
        for script in some_short_scripts(300, 55):
            if not ways(script, 7):
                cast = cast_of(script)
                keeps = all([keeps_to(script, cast, size, 12) for size in (1, 2, 3)])
                self.same(keeps, is_sound(script), script)
                kind = fault(script) and fault(script)[1]
                seen[kind] = seen.get(kind, 0) + 1
                if keeps:
                    self.same([is_calm(cast, size) for size in (1, 2, 3)], [True] * 3, script)
        self.assertEqual(sorted(seen, key=str), [None, "hear", "mixed", "say"], seen)
        self.assertGreater(min(seen.values()), 3, seen)


if __name__ == "__main__":
    unittest.main()
