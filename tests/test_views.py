"""Points 18 and 19: views of rows, rows that fit a script, and rows of ways."""

import itertools
import unittest

from roletalks import views as module
from roletalks.cuts import cast_of
from roletalks.errors import NotMade
from roletalks.scripts import ways, whole_ways
from roletalks.stage import play, rows
from roletalks.views import fits, fits_whole, row_of_way, same_views, views
from tests.support import TalkCase, some_scripts, some_short_scripts

ONE_END = (2, (None,))
ONE_TALK = (2, ((0, ((1, 0, 1),)), None))
ASKED = (2, ((0, ((1, 0, 1), (1, 1, 2))), (1, ((0, 2, 0),)), None))
TOLD = (3, ((0, ((1, 0, 1), (1, 1, 2))), (1, ((2, 0, 3),)), (1, ((2, 1, 3),)), None))
# Word 0 again and again, then word 1, and the end.
ROUND = (2, ((0, ((1, 0, 0), (1, 1, 1))), None))
NO_END = (2, ((1, ((0, 5, 0),)),))
# Eight scenes in a round; actor 3 speaks in two of them, with other words.
LONG_ROUND = (4, (
    (0, ((1, 0, 1),)), (1, ((2, 0, 2),)), (2, ((0, 0, 3),)), (3, ((0, 0, 4),)),
    (0, ((1, 1, 5),)), (1, ((2, 1, 6),)), (2, ((0, 1, 7),)), (3, ((0, 1, 0),))))
# A line of eight scenes.
LINE = (4, tuple([(at % 4, (((at + 1) % 4, at % 6, at + 1),)) for at in range(7)]) + (None,))
# Actors 0 and 1 may talk for ever before 2 tells 3 something; then comes the end.
AHEAD = (4, ((0, ((1, 0, 0), (1, 1, 1))), (2, ((3, 0, 2),)), None))
DONE = ((True, ()),)
SAY = (0, "say", 1, 0)
HEAR = (1, "hear", 0, 0)

INTERFACE = {
    "views": ["cast", "row"], "same_views": ["cast", "one", "other"], "fits": ["script", "row"],
    "fits_whole": ["script", "row"], "row_of_way": ["script", "talks"],
}


def events_of(talks, actor):
    """What an actor says and hears in a row of talks."""
    found = []
    for speaker, hearer, word in talks:
        if speaker == actor:
            found.append(("say", hearer, word))
        if hearer == actor:
            found.append(("hear", speaker, word))
    return found


def events_in(row, actor):
    """What an actor does in a row of doings."""
    return [(kind, other, word) for one, kind, other, word in row if one == actor]


def doings_in(script):
    """All doings that talks of a script are made of."""
    talks = [(scene[0],) + branch[:2] for scene in script[1] if scene is not None for branch in scene[1]]
    return sorted({doing for speaker, hearer, word in talks
                   for doing in ((speaker, "say", hearer, word), (hearer, "hear", speaker, word))})


class InterfaceTest(TalkCase):
    def test_names_and_arguments(self):
        self.defines(module, INTERFACE)


class ViewTest(TalkCase):
    def test_views(self):
        cast = cast_of(TOLD)
        self.same(views(cast, ()), ((), (), ()))
        self.same(views(cast, (SAY, HEAR, (1, "say", 2, 0))),
                  ((("say", 1, 0),), (("hear", 0, 0), ("say", 2, 0)), ()))
        self.same(views((DONE,) * 4, ((3, "hear", 0, 5),)), ((), (), (), (("hear", 0, 5),)))

    def test_the_order_of_an_actors_events_stays(self):
        row = ((0, "say", 1, 5), (1, "say", 0, 1), (0, "hear", 1, 1), (0, "say", 1, 0), (0, "say", 1, 5))
        self.same(views((DONE, DONE), row), (
            (("say", 1, 5), ("hear", 1, 1), ("say", 1, 0), ("say", 1, 5)), (("say", 0, 1),)))

    def test_rows_need_not_be_doable(self):
        row = (HEAR,) * 20 + (SAY,) * 20
        with self.assertRaises(NotMade):
            play((DONE, DONE), 1, row)
        self.same(views((DONE, DONE), row), ((("say", 1, 0),) * 20, (("hear", 0, 0),) * 20))

    def test_same_views(self):
        cast = cast_of(TOLD)
        self.same(same_views(cast, (), ()), True)
        self.same(same_views(cast, (SAY, HEAR), (SAY, HEAR)), True)
        self.same(same_views(cast, (SAY, HEAR), (HEAR, SAY)), True)
        self.same(same_views(cast, (SAY, (2, "hear", 1, 0), HEAR), (HEAR, SAY, (2, "hear", 1, 0))), True)
        self.same(same_views(cast, (SAY,), ()), False)
        self.same(same_views(cast, (), (SAY,)), False)
        self.same(same_views(cast, (SAY,), (HEAR,)), False)
        self.same(same_views(cast, (SAY,), (SAY, SAY)), False)
        self.same(same_views(cast, (SAY, (0, "say", 2, 0)), ((0, "say", 2, 0), SAY)), False)
        self.same(same_views(cast, (HEAR, (1, "say", 2, 0)), ((1, "say", 2, 0), HEAR)), False)
        self.same(same_views(cast, (SAY,) * 40, (SAY,) * 40), True)
        self.same(same_views(cast, (SAY,) * 40, (SAY,) * 39), False)

    def test_all_against_the_words_of_the_document(self):
        cast = cast_of(TOLD)
        found = [row for many in range(3) for row in itertools.product(doings_in(TOLD)[:5], repeat=many)]
        for one in found:
            seen = tuple([tuple(events_in(one, actor)) for actor in range(3)])
            self.same(views(cast, one), seen)
            for other in found:
                alike = all([events_in(one, actor) == events_in(other, actor) for actor in range(3)])
                self.same(same_views(cast, one, other), alike)


class FitTest(TalkCase):
    def test_beginnings_of_ways_fit(self):
        for row in [(), (SAY,), (SAY, HEAR), (SAY, HEAR, (1, "say", 2, 0)), ((0, "say", 1, 1),),
                    (SAY, HEAR, (1, "say", 2, 0), (2, "hear", 1, 0))]:
            self.same(fits(TOLD, row), True, row)

    def test_other_rows_do_not_fit(self):
        for row in [(SAY, SAY), (SAY, (1, "hear", 0, 1)), ((0, "say", 1, 2),), ((0, "say", 2, 0),), ((0, "hear", 1, 0),),
                    ((1, "say", 2, 0),), (SAY, (2, "hear", 1, 1)), (SAY, HEAR, (1, "say", 2, 1)),
                    (SAY, HEAR, (1, "say", 2, 0), (2, "hear", 1, 0), (2, "hear", 1, 0)), ((2, "say", 1, 0),)]:
            self.same(fits(TOLD, row), False, row)

    def test_a_row_that_no_cast_could_do_may_fit(self):
        self.same(fits(ONE_TALK, (HEAR,)), True)
        self.same(fits(ONE_TALK, (HEAR, SAY)), True)
        self.same(fits(TOLD, ((2, "hear", 1, 0),)), True)
        self.same(fits(TOLD, ((2, "hear", 1, 1), (0, "say", 1, 1))), True)
        self.same(fits(TOLD, ((2, "hear", 1, 1), (0, "say", 1, 0))), False)
        self.same(fits(ONE_TALK, (HEAR, HEAR)), False)

    def test_the_events_of_all_actors_have_to_be_of_one_way(self):
        script = (3, ((0, ((1, 0, 1), (1, 1, 2))), (2, ((1, 0, 3),)), (2, ((1, 1, 3),)), None))
        self.same(fits(script, (SAY, (2, "say", 1, 0))), True)
        self.same(fits(script, (SAY, (2, "say", 1, 1))), False)
        self.same(fits(script, ((2, "say", 1, 1), (0, "say", 1, 1))), True)
        self.same(fits(script, ((2, "say", 1, 1), SAY)), False)

    def test_ways_may_be_longer_than_the_row(self):
        self.same(fits(LINE, ((0, "say", 1, 0),)), True)
        self.same(fits(LINE, ((3, "hear", 2, 2),)), True)
        self.same(fits(LINE, ((3, "hear", 2, 0),)), False)
        self.same(fits(LINE, ((3, "hear", 2, 2), (3, "say", 0, 3), (3, "hear", 2, 0))), True)
        self.same(fits(LINE, ((3, "hear", 2, 2), (3, "hear", 2, 0))), False)
        self.same(fits(LINE, ((3, "hear", 2, 2), (0, "say", 1, 0))), True)
        self.same(fits(AHEAD, ((2, "say", 3, 0),)), True)
        self.same(fits(NO_END, ()), True)

    def test_ways_may_be_longer_than_a_row_of_talks(self):
        tells = [(3, "say", 0, 0), (3, "say", 0, 1)]
        for many in range(6):
            row = tuple([tells[at % 2] for at in range(many)])
            self.same(fits(LONG_ROUND, row), True)
            self.same(fits(LONG_ROUND, row + (tells[(many + 1) % 2],)), False)
        self.same(fits(LONG_ROUND, tuple(tells * 20)), True)
        self.same(fits(LONG_ROUND, tuple(tells * 19 + [tells[0], tells[0]])), False)

    def test_who_has_no_more_events_may_go_on(self):
        self.same(fits(ASKED, (SAY, (0, "hear", 1, 2), (0, "say", 1, 1))), True)
        self.same(fits(AHEAD, ((3, "hear", 2, 0), SAY, SAY)), True)
        self.same(fits(AHEAD, ((3, "hear", 2, 0), SAY, (0, "say", 1, 1), SAY)), False)

    def test_rows_of_forty_doings(self):
        self.same(fits(ROUND, (SAY, HEAR) * 20), True)
        self.same(fits(ROUND, (HEAR,) * 20 + (SAY,) * 20), True)
        self.same(fits(ROUND, (SAY,) * 40), True)
        self.same(fits(ROUND, (SAY,) * 39 + ((0, "say", 1, 1),)), True)
        self.same(fits(ROUND, ((0, "say", 1, 1),) + (SAY,) * 39), False)
        self.same(fits(ROUND, (SAY,) * 38 + ((0, "say", 1, 1),) * 2), False)
        self.same(fits(NO_END, ((0, "hear", 1, 5),) * 40), True)

    def test_the_empty_row(self):
        for script in (ONE_END, ONE_TALK, NO_END, TOLD, (4, (None,) * 8)):
            self.same(fits(script, ()), True)
        self.same(fits(ONE_END, (SAY,)), False)

    def test_all_against_the_words_of_the_document(self):
        compared = [0, 0]
        for script in some_scripts(200, 41) + some_short_scripts(40, 42):
            # No way needs more talks than this many scenes for each doing.
            if len(script[1]) < 5 and len(doings_in(script)) < 9:
                for many in range(3):
                    for row in itertools.product(doings_in(script), repeat=many):
                        expected = self.begins_a_way(script, row)
                        self.same(fits(script, row), expected, (script, row))
                        compared[expected] += 1
        self.assertGreater(min(compared), 200)

    def begins_a_way(self, script, row):
        seen = [events_in(row, actor) for actor in range(script[0])]
        for many in range(len(script[1]) * len(row) + 1):
            for way in ways(script, many):
                told = [events_of(way, actor)[:len(seen[actor])] for actor in range(script[0])]
                if told == seen:
                    return True
        return False


class WholeTest(TalkCase):
    def test_whole_rows(self):
        self.same(fits_whole(ONE_TALK, (SAY, HEAR)), True)
        self.same(fits_whole(ONE_TALK, (HEAR, SAY)), True)
        self.same(fits_whole(ONE_END, ()), True)
        self.same(fits_whole(TOLD, (SAY, HEAR, (1, "say", 2, 0), (2, "hear", 1, 0))), True)
        self.same(fits_whole(TOLD, ((2, "hear", 1, 1), (1, "hear", 0, 1), (1, "say", 2, 1), (0, "say", 1, 1))), True)

    def test_parts_of_whole_rows(self):
        self.same(fits_whole(ONE_TALK, ()), False)
        self.same(fits_whole(ONE_TALK, (SAY,)), False)
        self.same(fits_whole(ONE_TALK, (HEAR,)), False)
        self.same(fits_whole(ONE_TALK, (SAY, HEAR, SAY)), False)
        self.same(fits_whole(ONE_TALK, (SAY, HEAR, SAY, HEAR)), False)
        self.same(fits_whole(TOLD, (SAY, HEAR, (1, "say", 2, 0))), False)
        self.same(fits_whole(TOLD, (SAY, HEAR, (1, "say", 2, 1), (2, "hear", 1, 1))), False)
        self.same(fits_whole(ONE_END, (SAY,)), False)

    def test_a_way_that_leads_to_no_end(self):
        self.same(fits_whole(NO_END, ()), False)
        self.same(fits_whole(NO_END, ((1, "say", 0, 5), (0, "hear", 1, 5))), False)
        self.same(fits_whole(ASKED, (SAY, HEAR)), False)
        self.same(fits_whole(ASKED, ((0, "say", 1, 1), (1, "hear", 0, 1))), True)

    def test_a_row_of_forty_doings(self):
        last = ((0, "say", 1, 1), (1, "hear", 0, 1))
        self.same(fits_whole(ROUND, (SAY, HEAR) * 19 + last), True)
        self.same(fits_whole(ROUND, (SAY, HEAR) * 20), False)
        self.same(fits_whole(ROUND, (SAY,) * 19 + last + (HEAR,) * 19), False)
        self.same(fits_whole(ROUND, (SAY,) * 19 + last[:1] + (HEAR,) * 19 + last[1:]), True)

    def test_all_against_the_words_of_the_document(self):
        compared = [0, 0]
        for script in some_scripts(120, 43) + some_short_scripts(60, 44):
            found = [way for many in range(5) for way in whole_ways(script, many)][:12]
            tried = [row for way in found for row in self.rows_near(row_of_way(script, way))]
            for row in tried + [()]:
                seen = [events_in(row, actor) for actor in range(script[0])]
                whole = [way for way in whole_ways(script, len(row) // 2)
                         if [events_of(way, actor) for actor in range(script[0])] == seen]
                self.same(fits_whole(script, row), len(whole) > 0, (script, row))
                compared[len(whole) > 0] += 1
        self.assertGreater(min(compared), 100)

    def rows_near(self, row):
        """The row itself, and some in another order, with a doing too few or another word."""
        yield row
        yield row[::2] + row[1::2]
        yield row[::-1]
        if row:
            yield row[:-1]
            yield row[1:]
            yield row[:-1] + (row[-1][:3] + (5 - row[-1][3],),)


class RowOfWayTest(TalkCase):
    def test_each_word_is_heard_right_behind_it_is_said(self):
        self.same(row_of_way(TOLD, ()), ())
        self.same(row_of_way(TOLD, ((0, 1, 1),)), ((0, "say", 1, 1), (1, "hear", 0, 1)))
        self.same(row_of_way(TOLD, ((0, 1, 1), (1, 2, 1))), (
            (0, "say", 1, 1), (1, "hear", 0, 1), (1, "say", 2, 1), (2, "hear", 1, 1)))

    def test_a_row_of_talks_need_not_be_a_way(self):
        self.same(row_of_way((4, (None,)), ((3, 0, 5), (3, 0, 5))), (
            (3, "say", 0, 5), (0, "hear", 3, 5), (3, "say", 0, 5), (0, "hear", 3, 5)))

    def test_twelve_talks(self):
        row = row_of_way(ROUND, ((0, 1, 0),) * 12)
        self.same(row, (SAY, HEAR) * 12)
        self.same(fits(ROUND, row), True)

    def test_rows_of_ways_fit_and_can_be_done(self):
        for script in some_scripts(60, 45) + some_short_scripts(60, 46):
            for many in range(4):
                whole = whole_ways(script, many)
                for way in ways(script, many)[:10]:
                    row = row_of_way(script, way)
                    self.same(fits(script, row), True, (script, row))
                    self.same(fits_whole(script, row), way in whole, (script, row))
                    self.same(play(cast_of(script), 1, row)[1], ())


class PerformTest(TalkCase):
    def test_what_the_cast_of_a_sound_script_does_fits(self):
        for script in (ONE_TALK, ASKED, TOLD, ROUND, LINE):
            for many in range(7):
                for row in rows(cast_of(script), 2, many):
                    self.same(fits(script, row), True, (script, row))


if __name__ == "__main__":
    unittest.main()
