"""Points 2 to 5: what the functions over scripts return."""

import inspect
import itertools
import unittest

from roletalks import scripts
from roletalks.scripts import always_ends, count_ways, count_whole, end_scenes, follow, has_rounds, reached_scenes
from roletalks.scripts import shortest_way, silent, speakers, trimmed, ways, whole_ways
from tests.support import TalkCase, some_scripts

ONE_END = (2, (None,))
ONE_ROUND = (2, ((1, ((0, 5, 0),)),))
ASKED = (2, ((0, ((1, 0, 1), (1, 1, 2))), (1, ((0, 2, 0),)), None))
NO_END = (3, ((0, ((2, 0, 1),)), (2, ((0, 5, 0),)), None))
# From scene 2 no end can follow any more; scene 4 never comes.
TRAPPED = (3, ((0, ((1, 0, 1), (2, 0, 2))), None, (2, ((0, 1, 3),)), (0, ((2, 1, 2),)), (1, ((0, 0, 1),))))
# Two ends, equally far; the branches lead to later scenes first.
TWO_ENDS = (4, ((3, ((0, 0, 3), (0, 5, 1), (1, 0, 2))), (1, ((0, 0, 4),)), (1, ((0, 0, 5),)), (0, ((1, 3, 5),)), None,
                None))
# A line of eight scenes, the last one the end.
LONG = (4, tuple([(at % 4, (((at + 1) % 4, at % 6, at + 1),)) for at in range(7)]) + (None,))
# The first scene comes again, and the scenes come in the order 0, 7, 5, 3, 1.
BACK = (2, ((0, ((1, 0, 7), (1, 5, 5))), None, (0, ((1, 0, 2),)), (0, ((1, 0, 1),)), None, (1, ((0, 0, 3), (0, 1, 7))),
            None, (1, ((0, 0, 5), (0, 1, 0)))))
# Each actor of four says all six words to all others, always again.
FULL = (4, tuple([(actor, tuple([(hearer, word, (actor + 1) % 4) for hearer in range(4) if hearer != actor
                                 for word in range(6)])) for actor in range(4)]))
ALL = [ONE_END, ONE_ROUND, ASKED, NO_END, TRAPPED, TWO_ENDS, LONG, BACK] + some_scripts(150, 1)

INTERFACE = {
    "reached_scenes": ["script"], "end_scenes": ["script"], "speakers": ["script"], "silent": ["script"],
    "has_rounds": ["script"], "always_ends": ["script"], "trimmed": ["script"], "follow": ["script", "talks"],
    "ways": ["script", "many"], "whole_ways": ["script", "many"], "count_ways": ["script", "many"],
    "count_whole": ["script", "many"], "shortest_way": ["script"],
}


def next_scenes(script, scene):
    """The scenes right behind a scene."""
    return [] if script[1][scene] is None else [branch[2] for branch in script[1][scene][1]]


def later_scenes(script, scene):
    """The scenes that follow a scene by one talk or more, by closing the relation step by step."""
    found = set(next_scenes(script, scene))
    while True:
        more = found.union(*[next_scenes(script, there) for there in found])
        if more == found:
            return found
        found = more


def scene_behind(script, talks):
    """The scene behind a row of talks, by looking for a branch for each talk."""
    scene = 0
    for speaker, hearer, word in talks:
        if script[1][scene] is None or script[1][scene][0] != speaker:
            return None
        found = [branch[2] for branch in script[1][scene][1] if branch[:2] == (hearer, word)]
        if not found:
            return None
        scene = found[0]
    return scene


def talks_in(script):
    """All talks that stand in a script anywhere."""
    return sorted({(scene[0], hearer, word) for scene in script[1] if scene is not None for hearer, word, _ in scene[1]})


class InterfaceTest(TalkCase):
    def test_names_and_arguments(self):
        for name, arguments in INTERFACE.items():
            function = getattr(scripts, name)
            self.assertEqual(function.__module__, "roletalks.scripts", name)
            self.assertEqual(list(inspect.signature(function).parameters), arguments, name)


class SceneTest(TalkCase):
    def test_reached_scenes(self):
        self.same(reached_scenes(ONE_END), (0,))
        self.same(reached_scenes(ONE_ROUND), (0,))
        self.same(reached_scenes(ASKED), (0, 1, 2))
        self.same(reached_scenes(NO_END), (0, 1))
        self.same(reached_scenes(TRAPPED), (0, 1, 2, 3))
        self.same(reached_scenes(LONG), (0, 1, 2, 3, 4, 5, 6, 7))
        self.same(reached_scenes(BACK), (0, 1, 3, 5, 7))

    def test_end_scenes(self):
        self.same(end_scenes(ONE_END), (0,))
        self.same(end_scenes(ONE_ROUND), ())
        self.same(end_scenes(NO_END), ())
        self.same(end_scenes(TWO_ENDS), (4, 5))
        self.same(end_scenes(BACK), (1,))

    def test_has_rounds(self):
        for script, expected in [(ONE_END, False), (ONE_ROUND, True), (ASKED, True), (NO_END, True), (TRAPPED, True),
                                 (TWO_ENDS, False), (LONG, False), (BACK, True)]:
            self.same(has_rounds(script), expected)

    def test_a_round_that_does_not_come_is_none(self):
        self.same(has_rounds((2, (None, (0, ((1, 0, 1),))))), False)

    def test_a_round_may_leave_out_the_first_scene(self):
        self.same(has_rounds((2, ((0, ((1, 0, 1),)), (0, ((1, 0, 2),)), (0, ((1, 0, 1),))))), True)
        self.same(has_rounds((2, ((0, ((1, 0, 1),)), (0, ((1, 0, 1),))))), True)

    def test_two_branches_to_one_scene_are_no_round(self):
        self.same(has_rounds((2, ((0, ((1, 0, 1), (1, 1, 2))), (0, ((1, 0, 2),)), None))), False)

    def test_always_ends(self):
        for script, expected in [(ONE_END, True), (ONE_ROUND, False), (ASKED, True), (NO_END, False),
                                 (TRAPPED, False), (TWO_ENDS, True), (LONG, True), (BACK, True)]:
            self.same(always_ends(script), expected)

    def test_a_scene_that_does_not_come_needs_no_end(self):
        self.same(always_ends((2, (None, (0, ((1, 0, 1),))))), True)

    def test_an_end_that_does_not_come_does_not_help(self):
        self.same(always_ends((2, ((0, ((1, 0, 0),)), None))), False)

    def test_all_against_the_words_of_the_document(self):
        for script in ALL:
            comes = sorted({0} | later_scenes(script, 0))
            ends = [scene for scene in comes if script[1][scene] is None]
            self.same(reached_scenes(script), tuple(comes), script)
            self.same(end_scenes(script), tuple(ends), script)
            self.same(has_rounds(script), any(scene in later_scenes(script, scene) for scene in comes), script)
            good = [scene for scene in comes if scene in ends or later_scenes(script, scene) & set(ends)]
            self.same(always_ends(script), good == comes, script)


class TrimmedTest(TalkCase):
    def test_all_scenes_in_their_order_stay(self):
        for script in (ONE_END, ONE_ROUND, ASKED, LONG):
            self.same(trimmed(script), script)

    def test_scenes_that_do_not_come_are_left_out(self):
        self.same(trimmed(NO_END), (3, NO_END[1][:2]))
        self.same(trimmed(TRAPPED), (3, TRAPPED[1][:4]))
        self.same(trimmed((4, (None, None, (0, ((1, 0, 1),))))), (4, (None,)))

    def test_scenes_are_named_in_the_order_of_their_coming(self):
        self.same(trimmed(BACK), (2, ((0, ((1, 0, 1), (1, 5, 2))), (1, ((0, 0, 2), (0, 1, 0))),
                                      (1, ((0, 0, 3), (0, 1, 1))), (0, ((1, 0, 4),)), None)))

    def test_the_next_scenes_of_one_scene_come_ahead_of_those_behind_them(self):
        self.same(trimmed(TWO_ENDS), (4, ((3, ((0, 0, 1), (0, 5, 2), (1, 0, 3))), (0, ((1, 3, 4),)), (1, ((0, 0, 5),)),
                                          (1, ((0, 0, 4),)), None, None)))

    def test_a_trimmed_script_has_the_same_ways_and_only_scenes_that_come(self):
        for script in ALL:
            short = trimmed(script)
            self.same(reached_scenes(short), tuple(range(len(reached_scenes(script)))), script)
            self.same(trimmed(short), short)
            for many in range(4):
                self.same(ways(short, many), ways(script, many), script)
                self.same(whole_ways(short, many), whole_ways(script, many), script)


class ActorTest(TalkCase):
    def test_speakers(self):
        self.same(speakers(ONE_END), ())
        self.same(speakers(ONE_ROUND), (1,))
        self.same(speakers(NO_END), (0, 2))
        self.same(speakers(TRAPPED), (0, 2))
        self.same(speakers(TWO_ENDS), (0, 1, 3))
        self.same(speakers(LONG), (0, 1, 2, 3))

    def test_silent(self):
        self.same(silent(ONE_END), (0, 1))
        self.same(silent((4, (None,))), (0, 1, 2, 3))
        self.same(silent(ONE_ROUND), ())
        self.same(silent(NO_END), (1,))
        self.same(silent(TRAPPED), ())
        self.same(silent(TWO_ENDS), (2,))
        self.same(silent((4, ((3, ((1, 0, 1),)), None, (0, ((2, 0, 1),))))), (0, 2))

    def test_an_actor_who_is_only_spoken_to_neither_speaks_nor_is_silent(self):
        script = (3, ((2, ((0, 0, 0),)),))
        self.same(speakers(script), (2,))
        self.same(silent(script), (1,))

    def test_all_against_the_words_of_the_document(self):
        for script in ALL:
            scenes = [script[1][scene] for scene in {0} | later_scenes(script, 0)]
            spoke = {scene[0] for scene in scenes if scene}
            heard = {branch[0] for scene in scenes if scene for branch in scene[1]}
            self.same(speakers(script), tuple(sorted(spoke)), script)
            self.same(silent(script), tuple(sorted(set(range(script[0])) - spoke - heard)), script)


class WayTest(TalkCase):
    def test_follow(self):
        self.same(follow(ASKED, ()), 0)
        self.same(follow(ASKED, ((0, 1, 1),)), 2)
        self.same(follow(ASKED, ((0, 1, 0), (1, 0, 2))), 0)
        self.same(follow(ASKED, ((0, 1, 0), (1, 0, 2), (0, 1, 0))), 1)

    def test_follow_has_none_where_the_script_has_no_such_talk(self):
        self.same(follow(ASKED, ((0, 1, 2),)), None)
        self.same(follow(ASKED, ((1, 0, 0),)), None)
        self.same(follow(ASKED, ((0, 1, 1), (0, 1, 1))), None)
        self.same(follow(ASKED, ((0, 1, 2), (0, 1, 1))), None)
        self.same(follow(ONE_END, ((0, 1, 0),)), None)
        self.same(follow(TRAPPED, ((1, 0, 0),)), None)

    def test_a_row_of_twelve_talks_and_the_last_scene(self):
        self.same(follow(ONE_ROUND, ((1, 0, 5),) * 12), 0)
        self.same(follow(LONG, tuple([(at % 4, (at + 1) % 4, at % 6) for at in range(7)])), 7)

    def test_ways(self):
        self.same(ways(ASKED, 0), [()])
        self.same(ways(ASKED, 1), [((0, 1, 0),), ((0, 1, 1),)])
        self.same(ways(ASKED, 2), [((0, 1, 0), (1, 0, 2))])
        self.same(ways(ONE_END, 0), [()])
        self.same(ways(ONE_END, 1), [])
        self.same(ways(ONE_ROUND, 12), [((1, 0, 5),) * 12])
        self.same(ways(LONG, 8), [])
        self.same(ways(TRAPPED, 2), [((0, 2, 0), (2, 0, 1))])

    def test_whole_ways(self):
        self.same(whole_ways(ASKED, 0), [])
        self.same(whole_ways(ASKED, 1), [((0, 1, 1),)])
        self.same(whole_ways(ASKED, 2), [])
        self.same(whole_ways(ONE_END, 0), [()])
        self.same(whole_ways(ONE_END, 12), [])
        self.same(whole_ways(NO_END, 12), [])
        self.same(whole_ways(TWO_ENDS, 2), [((3, 0, 0), (0, 1, 3)), ((3, 0, 5), (1, 0, 0)), ((3, 1, 0), (1, 0, 0))])

    def test_counts(self):
        self.same([count_ways(ASKED, many) for many in range(6)], [1, 2, 1, 2, 1, 2])
        self.same([count_whole(ASKED, many) for many in range(6)], [0, 1, 0, 1, 0, 1])
        self.same([count_ways(ONE_END, many) for many in (0, 1, 12)], [1, 0, 0])
        self.same([count_whole(ONE_END, many) for many in (0, 1, 12)], [1, 0, 0])
        self.same([count_ways(FULL, many) for many in (0, 1, 2, 12)], [1, 18, 324, 18 ** 12])
        self.same([count_whole(FULL, many) for many in (0, 12)], [0, 0])

    def test_shortest_way(self):
        self.same(shortest_way(ONE_END), ())
        self.same(shortest_way(ONE_ROUND), None)
        self.same(shortest_way(ASKED), ((0, 1, 1),))
        self.same(shortest_way(NO_END), None)
        self.same(shortest_way(TRAPPED), ((0, 1, 0),))
        self.same(shortest_way(TWO_ENDS), ((3, 0, 0), (0, 1, 3)))
        self.same(shortest_way(LONG), tuple([(at % 4, (at + 1) % 4, at % 6) for at in range(7)]))
        self.same(shortest_way(BACK), ((0, 1, 5), (1, 0, 0), (0, 1, 0)))

    def test_a_shorter_way_is_better_than_a_lesser_one(self):
        script = (2, ((0, ((1, 0, 1), (1, 5, 2))), (0, ((1, 0, 2),)), None))
        self.same(shortest_way(script), ((0, 1, 5),))

    def test_all_against_the_words_of_the_document(self):
        for script in ALL:
            for many in range(3):
                self.check_ways(script, many)

    def check_ways(self, script, many):
        rows = [row for row in itertools.product(talks_in(script), repeat=many)]
        for row in rows:
            self.same(follow(script, row), scene_behind(script, row), script)
        found = [row for row in rows if scene_behind(script, row) is not None]
        whole = [row for row in found if script[1][scene_behind(script, row)] is None]
        self.same(ways(script, many), sorted(found), script)
        self.same(whole_ways(script, many), sorted(whole), script)
        self.same(count_ways(script, many), len(found), script)
        self.same(count_whole(script, many), len(whole), script)

    def test_the_shortest_way_is_the_first_whole_way(self):
        for script in ALL:
            firsts = [whole_ways(script, many)[:1] for many in range(8)]
            found = [rows[0] for rows in firsts if rows]
            self.same(shortest_way(script), found[0] if found else None, script)

    def test_lists_are_new(self):
        for function in (ways, whole_ways):
            function(ONE_END, 0).append("more")
            self.same(function(ONE_END, 0), [()])


if __name__ == "__main__":
    unittest.main()
