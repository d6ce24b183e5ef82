"""Points 14 to 17, and 22 for these functions: casts that perform with boxes."""

import itertools
import unittest

from roletalks import stage
from roletalks.cuts import cast_of
from roletalks.errors import NotMade, TooMany
from roletalks.stage import can_be_over, count_positions, count_rows, doings, ends, layers, most_letters, play, rows
from tests.support import TalkCase, some_casts, some_scripts

DONE = ((True, ()),)
DEAD = ((False, ()),)
ONE_TALK = cast_of((2, ((0, ((1, 0, 1),)), None)))
ASKED = cast_of((2, ((0, ((1, 0, 1), (1, 1, 2))), (1, ((0, 2, 0),)), None)))
TOLD = cast_of((3, ((0, ((1, 0, 1), (1, 1, 2))), (1, ((2, 0, 3),)), (1, ((2, 1, 3),)), None)))
LINE = cast_of((4, tuple([(at % 4, (((at + 1) % 4, at % 6, at + 1),)) for at in range(7)]) + (None,)))
# Casts that are not cut out of a script: nobody hears what is said; both hear; words in another order.
UNREAD = (((False, (("say", 1, 0, 1),)), (True, ())), DONE)
DEAF = (((False, (("hear", 1, 0, 0),)),), ((True, (("hear", 0, 0, 0),)),))
CROSSED = (((False, (("say", 1, 0, 1),)), (False, (("say", 1, 1, 2),)), (True, ())),
           ((False, (("hear", 0, 1, 1),)), (False, (("hear", 0, 0, 2),)), (True, ())))
# Actor 0 says words for ever, actor 1 hears them for ever.
STREAM = (((True, (("say", 1, 0, 0), ("say", 1, 5, 0))),), ((True, (("hear", 0, 0, 0), ("hear", 0, 5, 0))),))
FULL = (((False, (("say", 1, 0, 0), ("say", 1, 5, 0))),), DONE)
# Actor 0 tells all others, who never hear it, and may rest only ahead of it.
FOUR = (((True, (("say", 1, 3, 1), ("say", 2, 4, 1), ("say", 3, 5, 1))), (False, ())), DONE, DONE,
        ((True, (("say", 0, 2, 0),)),))
# From state 1 of actor 0 nobody can ever rest again.
TRAP = (((True, (("say", 1, 0, 1), ("say", 1, 1, 0))), (False, (("say", 1, 1, 1),))),
        ((True, (("hear", 0, 0, 0), ("hear", 0, 1, 0))),))
BY_HAND = [ONE_TALK, ASKED, TOLD, LINE, UNREAD, DEAF, CROSSED, STREAM, FULL, FOUR, TRAP, (DONE, DEAD), (DONE,) * 4]
ALL = BY_HAND + some_casts(60, 31) + [cast_of(script) for script in some_scripts(25, 32)]

SAY = (0, "say", 1, 0)
HEAR = (1, "hear", 0, 0)

INTERFACE = {
    "play": ["cast", "size", "row"], "doings": ["cast", "size", "row"], "layers": ["cast", "size"],
    "ends": ["cast", "size"], "count_positions": ["cast", "size"], "most_letters": ["cast", "size"],
    "count_rows": ["cast", "size", "many"], "can_be_over": ["cast", "size"], "rows": ["cast", "size", "many"],
}


class Show:
    """A performance with a list of letters for each box, as the document tells it."""

    def __init__(self, cast, size, row=()):
        self.cast = cast
        self.size = size
        self.states = [0] * len(cast)
        self.boxes = {(one, other): [] for one in range(len(cast)) for other in range(len(cast))}
        self.done = all([self.does(doing) for doing in row])

    def does(self, doing):
        """Do a doing if it can be done, and tell whether it could."""
        actor, kind, other, word = doing
        steps = {step[:3]: step[3] for step in self.cast[actor][self.states[actor]][1]}
        box = self.boxes[(actor, other) if kind == "say" else (other, actor)]
        if doing[1:] not in steps or (len(box) == self.size if kind == "say" else box[:1] != [word]):
            return False
        self.states[actor] = steps[doing[1:]]
        if kind == "say":
            box.append(word)
        else:
            box.pop(0)
        return True

    def position(self):
        boxes = [pair + (tuple(words),) for pair, words in sorted(self.boxes.items()) if words]
        return tuple(self.states), tuple(boxes)

    def is_over(self):
        return not self.position()[1] and all([part[at][0] for part, at in zip(self.cast, self.states)])


def all_doings(cast):
    """All doings that steps of the parts name, ascending."""
    return sorted({(actor,) + step[:3] for actor, part in enumerate(cast) for _, steps in part for step in steps})


def shows(cast, size, most):
    """A shortest row to each position that comes, found length by length, None for more positions than most."""
    found = {Show(cast, size).position(): ()}
    last = [()]
    while last and len(found) <= most:
        longer = []
        for row in last:
            for doing in all_doings(cast):
                show = Show(cast, size, row + (doing,))
                if show.done and show.position() not in found:
                    found[show.position()] = row + (doing,)
                    longer.append(row + (doing,))
        last = longer
    return found if len(found) <= most else None


def ring(tail, length, event):
    """A part that does an event again and again: after a tail of states, in a ring of a length."""
    states = tail + length
    return tuple([(True, (event + (at + 1 if at + 1 < states else tail,),)) for at in range(states)])


# With boxes of size 1 all goes in one line: a word, heard, a word, heard. The line comes back to itself.
LINE_OF_3000 = (ring(0, 125, ("say", 1, 0)), ring(0, 12, ("hear", 0, 0)))
LINE_OF_3001 = (ring(1, 125, ("say", 1, 0)), ring(0, 12, ("hear", 0, 0)))


def choice(word_counts, there):
    """A state that says so many words to each of the next actors, all with one state behind them."""
    return False, tuple([("say", hearer, word, there) for hearer, many in word_counts for word in range(many)])


# Actor 0 has 6 * 5 * 5 * 5 * 4 rows of five words and no longer ones; in the other cast there is one row more.
ROWS_OF_3000 = ((choice([(1, 6)], 1), choice([(1, 5)], 2), choice([(1, 5)], 3), choice([(2, 5)], 4),
                 choice([(2, 4)], 5), (True, ())), DONE, DONE)
ROWS_OF_3001 = ((((False, choice([(1, 6)], 1)[1] + (("say", 2, 0, 6),)),) + ROWS_OF_3000[0][1:5] + (
    (True, ()), choice([(1, 1)], 7), choice([(1, 1)], 8), choice([(1, 1)], 9), choice([(2, 1)], 5))), DONE, DONE)


class InterfaceTest(TalkCase):
    def test_names_and_arguments(self):
        self.defines(stage, INTERFACE)


class PlayTest(TalkCase):
    def test_no_doings(self):
        self.same(play(ONE_TALK, 1, ()), ((0, 0), ()))
        self.same(play((DONE,) * 4, 3, ()), ((0, 0, 0, 0), ()))
        self.same(doings((DONE, DEAD), 2, ()), ())

    def test_a_word_is_put_into_the_box_and_taken_out(self):
        self.same(play(ONE_TALK, 1, (SAY,)), ((1, 0), ((0, 1, (0,)),)))
        self.same(play(ONE_TALK, 1, (SAY, HEAR)), ((1, 1), ()))
        self.same(doings(ONE_TALK, 1, ()), (SAY,))
        self.same(doings(ONE_TALK, 1, (SAY,)), (HEAR,))
        self.same(doings(ONE_TALK, 1, (SAY, HEAR)), ())

    def test_the_first_word_of_a_box_is_the_one_put_first(self):
        row = ((0, "say", 1, 5), SAY, SAY)
        self.same(play(STREAM, 3, row), ((0, 0), ((0, 1, (5, 0, 0)),)))
        self.same(play(STREAM, 3, row + ((1, "hear", 0, 5),)), ((0, 0), ((0, 1, (0, 0)),)))
        self.same(doings(STREAM, 3, row), ((1, "hear", 0, 5),))
        self.same(play(STREAM, 3, row + ((1, "hear", 0, 5), (0, "say", 1, 5))), ((0, 0), ((0, 1, (0, 0, 5)),)))

    def test_a_full_box_takes_no_word(self):
        for size in (1, 2, 3):
            row = (SAY,) * size
            self.same(play(STREAM, size, row), ((0, 0), ((0, 1, (0,) * size),)))
            self.same(doings(STREAM, size, row), (HEAR,))
            self.same(doings(STREAM, size, row[1:]),
                      ((0, "say", 1, 0), (0, "say", 1, 5)) + ((HEAR,) if size > 1 else ()))
            self.raises(NotMade, {}, play, STREAM, size, row + (SAY,))
            self.same(play(STREAM, size, row + (HEAR, SAY)), ((0, 0), ((0, 1, (0,) * size),)))

    def test_each_pair_has_boxes_of_its_own(self):
        row = ((3, "say", 0, 2), (0, "say", 2, 4))
        self.same(play(FOUR, 1, row), ((1, 0, 0, 0), ((0, 2, (4,)), (3, 0, (2,)))))
        both = (((True, (("say", 1, 0, 0),)),), ((True, (("say", 0, 1, 0),)),))
        self.same(play(both, 1, ((1, "say", 0, 1), (0, "say", 1, 0))), ((0, 0), ((0, 1, (0,)), (1, 0, (1,)))))

    def test_what_can_be_done_is_told_ascending(self):
        self.same(doings(FOUR, 2, ()), ((0, "say", 1, 3), (0, "say", 2, 4), (0, "say", 3, 5), (3, "say", 0, 2)))
        cast = (((True, (("hear", 1, 0, 0), ("say", 1, 0, 0))),), ((True, (("hear", 0, 0, 0), ("say", 0, 0, 0))),))
        self.same(doings(cast, 2, ((0, "say", 1, 0), (1, "say", 0, 0))), (
            (0, "hear", 1, 0), (0, "say", 1, 0), (1, "hear", 0, 0), (1, "say", 0, 0)))

    def test_rows_that_cannot_be_done(self):
        for cast, size, row in [
            (ONE_TALK, 1, (HEAR,)), (ONE_TALK, 1, (SAY, SAY)), (ONE_TALK, 3, (SAY, SAY)), (ONE_TALK, 1, (SAY, HEAR, HEAR)),
            (ONE_TALK, 1, ((0, "say", 1, 1),)), (ONE_TALK, 1, ((0, "hear", 1, 0),)), (ONE_TALK, 1, ((1, "say", 0, 0),)),
            (CROSSED, 3, (SAY, (0, "say", 1, 1), (1, "hear", 0, 1))), (STREAM, 3, (SAY, (1, "hear", 0, 5))),
            (FULL, 2, (SAY, SAY, SAY)), (FOUR, 1, ((1, "hear", 0, 3),)), ((DONE,) * 4, 1, ((3, "say", 2, 5),)),
            (TOLD, 1, ((0, "say", 1, 0), (1, "hear", 0, 1))), (TOLD, 1, ((0, "say", 2, 0),)),
            (UNREAD, 1, (SAY, HEAR)), (STREAM, 1, (SAY, HEAR) * 19 + (SAY, SAY)),
        ]:
            self.raises(NotMade, {}, play, cast, size, row)
            self.raises(NotMade, {}, doings, cast, size, row)

    def test_a_row_of_forty_doings(self):
        self.same(play(STREAM, 1, (SAY, HEAR) * 20), ((0, 0), ()))
        self.same(doings(STREAM, 1, (SAY, HEAR) * 19 + (SAY,)), (HEAR,))

    def test_all_against_the_words_of_the_document(self):
        for cast in ALL:
            for size in (1, 2, 3):
                for row in (found for many in range(3) for found in rows(cast, size, many)):
                    show = Show(cast, size, row)
                    self.same(play(cast, size, row), show.position(), (cast, size))
                    can = [doing for doing in all_doings(cast) if Show(cast, size, row + (doing,)).done]
                    self.same(doings(cast, size, row), tuple(can), (cast, size))


class PositionTest(TalkCase):
    def test_count_positions(self):
        self.same(count_positions(ONE_TALK, 1), 3)
        self.same(count_positions((DONE, DONE), 3), 1)
        self.same(count_positions(DEAF, 1), 1)
        self.same([count_positions(FULL, size) for size in (1, 2, 3)], [3, 7, 15])
        self.same([count_positions(STREAM, size) for size in (1, 2, 3)], [3, 7, 15])
        self.same([count_positions(CROSSED, size) for size in (1, 2, 3)], [2, 3, 3])
        self.same([count_positions(FOUR, size) for size in (1, 2, 3)], [8, 12, 16])
        self.same([count_positions(LINE, size) for size in (1, 3)], [15, 15])

    def test_layers(self):
        self.same(layers(ONE_TALK, 1), (1, 1, 1))
        self.same(layers((DONE, DEAD), 1), (1,))
        self.same([layers(FULL, size) for size in (1, 2, 3)], [(1, 2), (1, 2, 4), (1, 2, 4, 8)])
        self.same([layers(FOUR, size) for size in (1, 2)], [(1, 4, 3), (1, 4, 4, 3)])
        self.same(layers(ASKED, 1), (1, 2, 2, 1))
        self.same(layers(LINE, 2), (1,) * 15)

    def test_ends(self):
        self.same(ends(ONE_TALK, 1), (((1, 1), ()),))
        self.same(ends((DONE, DEAD), 1), (((0, 0), ()),))
        self.same(ends(UNREAD, 2), (((1, 0), ((0, 1, (0,)),)),))
        self.same(ends(STREAM, 1), ())
        self.same(ends(FULL, 1), (((0, 0), ((0, 1, (0,)),)), ((0, 0), ((0, 1, (5,)),))))
        self.same(ends(FULL, 2), tuple([((0, 0), ((0, 1, words),)) for words in ((0, 0), (0, 5), (5, 0), (5, 5))]))
        self.same(ends(CROSSED, 1), (((1, 0), ((0, 1, (0,)),)),))
        self.same(ends(CROSSED, 3), (((2, 0), ((0, 1, (0, 1)),)),))
        self.same(ends(FOUR, 1), tuple([((1, 0, 0, 0), ((0, at, (at + 2,)), (3, 0, (2,)))) for at in (1, 2, 3)]))

    def test_ends_are_ascending_by_states_and_letters(self):
        cast = (((False, (("say", 1, 0, 2), ("say", 1, 1, 1), ("say", 1, 2, 1))), (True, ()), (True, ())), DONE)
        self.same(ends(cast, 1), (((1, 0), ((0, 1, (1,)),)), ((1, 0), ((0, 1, (2,)),)), ((2, 0), ((0, 1, (0,)),))))

    def test_can_be_over(self):
        for cast, size, expected in [
            (ONE_TALK, 1, True), (ASKED, 3, True), (TOLD, 1, True), (LINE, 2, True), (STREAM, 3, True), (UNREAD, 1, False),
            (DEAF, 1, False), (CROSSED, 3, False), (FULL, 1, False), (FOUR, 1, False), (TRAP, 1, False),
            ((DONE, DONE), 1, True), ((DONE, DEAD), 1, False), ((DEAD, DONE), 1, False), ((DONE,) * 4, 3, True),
            ((DONE, DONE, DONE, DEAD), 2, False),
        ]:
            self.same(can_be_over(cast, size), expected, cast)

    def test_it_has_to_be_over_from_each_position(self):
        # Actor 1 hears word 0 and may rest, or word 5 and may not.
        cast = (((False, (("say", 1, 0, 1), ("say", 1, 5, 1))), (True, ())),
                ((False, (("hear", 0, 0, 1), ("hear", 0, 5, 2))), (True, ()), (False, ())))
        self.same(can_be_over(cast, 1), False)
        self.same(can_be_over((cast[0], cast[1][:2] + DONE), 1), True)

    def test_it_may_be_over_and_go_on(self):
        self.same(can_be_over((((True, (("say", 1, 0, 1),)), (False, (("say", 1, 0, 0),))), STREAM[1]), 1), True)

    def test_it_may_depend_on_the_size(self):
        cast = (((False, (("say", 1, 0, 1),)), (False, (("say", 1, 5, 2),)), (False, (("say", 2, 0, 3),)), (True, ())),
                ((False, (("hear", 2, 0, 1),)), (False, (("hear", 0, 0, 2),)), (False, (("hear", 0, 5, 3),)), (True, ())),
                ((False, (("hear", 0, 0, 1),)), (False, (("say", 1, 0, 2),)), (True, ())))
        self.same([can_be_over(cast, size) for size in (1, 2, 3)], [False, True, True])

    def test_most_letters(self):
        self.same([most_letters(STREAM, size) for size in (1, 2, 3)], [1, 2, 3])
        self.same([most_letters(CROSSED, size) for size in (1, 2, 3)], [1, 2, 2])
        self.same(most_letters(ONE_TALK, 3), 1)
        self.same(most_letters(TOLD, 3), 1)
        self.same(most_letters(DEAF, 2), 0)
        self.same(most_letters((DONE,) * 4, 1), 0)
        self.same([most_letters(FOUR, size) for size in (1, 2, 3)], [1, 2, 3])

    def test_letters_of_different_boxes_do_not_add_up(self):
        cast = (((True, (("say", 1, 0, 1),)), (True, (("say", 2, 0, 2),)), (True, (("say", 1, 1, 3),)), (True, ())),
                DONE, ((True, (("say", 1, 2, 1),)), (True, ())))
        self.same([most_letters(cast, size) for size in (1, 3)], [1, 2])

    def test_all_against_the_words_of_the_document(self):
        compared = 0
        for cast in ALL:
            for size in (1, 2, 3):
                found = shows(cast, size, 120)
                if found is not None:
                    self.check_positions(cast, size, found)
                    compared += 1
        self.assertGreater(compared, 100)

    def check_positions(self, cast, size, found):
        self.same(count_positions(cast, size), len(found), cast)
        lengths = [len(row) for row in found.values()]
        self.same(layers(cast, size), tuple([lengths.count(many) for many in range(max(lengths) + 1)]), cast)
        self.same(most_letters(cast, size), max([0] + [len(box[2]) for _, boxes in found for box in boxes]), cast)
        after = {}
        for position, row in found.items():
            longer = [Show(cast, size, row + (doing,)) for doing in all_doings(cast)]
            after[position] = {show.position() for show in longer if show.done}
        self.same(ends(cast, size), tuple(sorted([one for one in after if not after[one]])), cast)
        good = {position for position, row in found.items() if Show(cast, size, row).is_over()}
        more = True
        while more:
            more = {position for position in after if after[position] & good} - good
            good |= more
        self.same(can_be_over(cast, size), len(good) == len(found), cast)


class TooManyPositionsTest(TalkCase):
    def test_three_thousand_positions_are_not_too_many(self):
        self.same(count_positions(LINE_OF_3000, 1), 3000)
        self.same(layers(LINE_OF_3000, 1), (1,) * 3000)
        self.same(ends(LINE_OF_3000, 1), ())
        self.same(can_be_over(LINE_OF_3000, 1), True)
        self.same(most_letters(LINE_OF_3000, 1), 1)

    def test_one_more_is_too_many(self):
        for function in (count_positions, layers, ends, can_be_over, most_letters):
            self.raises(TooMany, {"most": 3000}, function, LINE_OF_3001, 1)
            self.raises(TooMany, {"most": 3000}, function, LINE_OF_3000, 2)

    def test_far_more_positions(self):
        loud = tuple([((True, tuple([("say", other, word, 0) for other in range(4) if other != actor
                                     for word in range(6)])),) for actor in range(4)])
        for function in (count_positions, layers, ends, can_be_over, most_letters):
            self.raises(TooMany, {"most": 3000}, function, loud, 3)
        self.same(play(loud, 3, ()), ((0, 0, 0, 0), ()))
        self.same(len(doings(loud, 3, ())), 72)
        self.same(len(rows(loud, 3, 1)), 72)
        self.same(count_rows(loud, 3, 2), 72 * 72)
        self.raises(TooMany, {"most": 3000}, rows, loud, 3, 2)

    def test_rows_do_not_care_for_the_number_of_positions(self):
        self.same(count_rows(LINE_OF_3001, 1, 40), 1)
        self.same(rows(LINE_OF_3001, 1, 40), [(SAY, HEAR) * 20])
        self.same(play(LINE_OF_3001, 1, (SAY, HEAR) * 20), ((20, 8), ()))


class RowTest(TalkCase):
    def test_rows(self):
        self.same(rows(ONE_TALK, 1, 0), [()])
        self.same(rows(ONE_TALK, 1, 1), [(SAY,)])
        self.same(rows(ONE_TALK, 1, 2), [(SAY, HEAR)])
        self.same(rows(ONE_TALK, 1, 3), [])
        self.same(rows(ONE_TALK, 1, 40), [])
        self.same(rows(DEAF, 3, 1), [])
        self.same(rows(FULL, 1, 1), [((0, "say", 1, 0),), ((0, "say", 1, 5),)])
        self.same(rows(ASKED, 1, 3), [
            ((0, "say", 1, 0), (1, "hear", 0, 0), (1, "say", 0, 2))])
        self.same(rows(STREAM, 1, 3), [
            (SAY, HEAR, SAY), (SAY, HEAR, (0, "say", 1, 5)), ((0, "say", 1, 5), (1, "hear", 0, 5), SAY),
            ((0, "say", 1, 5), (1, "hear", 0, 5), (0, "say", 1, 5))])

    def test_rows_of_forty_doings(self):
        one_word = (((True, (("say", 1, 0, 0),)),), STREAM[1])
        self.same(rows(one_word, 1, 40), [(SAY, HEAR) * 20])
        self.same(rows(one_word, 1, 39), [(SAY, HEAR) * 19 + (SAY,)])
        self.same(count_rows(one_word, 1, 40), 1)

    def test_count_rows(self):
        self.same([count_rows(ONE_TALK, 1, many) for many in (0, 1, 2, 3, 40)], [1, 1, 1, 0, 0])
        self.same([count_rows(TOLD, 1, many) for many in range(6)], [1, 2, 2, 2, 2, 0])
        self.same([count_rows(FULL, 3, many) for many in range(5)], [1, 2, 4, 8, 0])
        self.same(count_rows(STREAM, 1, 40), 2 ** 20)
        self.same([count_rows((DONE, DEAD), 2, many) for many in (0, 1, 40)], [1, 0, 0])

    def test_count_rows_of_far_more_than_three_thousand(self):
        for size in (1, 2, 3):
            # How many rows lead to each number of letters in the one box.
            counts = [1] + [0] * size
            for _ in range(40):
                counts = [(2 * counts[at - 1] if at else 0) + (counts[at + 1] if at < size else 0)
                          for at in range(size + 1)]
            self.same(count_rows(STREAM, size, 40), sum(counts))

    def test_three_thousand_rows_are_not_too_many(self):
        self.same([count_rows(ROWS_OF_3000, 3, many) for many in (4, 5, 6, 40)], [750, 3000, 0, 0])
        found = rows(ROWS_OF_3000, 3, 5)
        self.same(len(found), 3000)
        self.same(found, sorted(found))
        self.same(rows(ROWS_OF_3000, 3, 6), [])
        self.same(rows(ROWS_OF_3000, 3, 40), [])

    def test_one_more_is_too_many(self):
        self.same([count_rows(ROWS_OF_3001, 3, many) for many in (4, 5, 6, 40)], [751, 3001, 0, 0])
        self.same(len(rows(ROWS_OF_3001, 3, 4)), 751)
        self.raises(TooMany, {"most": 3000}, rows, ROWS_OF_3001, 3, 5)

    def test_shorter_rows_count_too(self):
        self.raises(TooMany, {"most": 3000}, rows, ROWS_OF_3001, 3, 6)
        self.raises(TooMany, {"most": 3000}, rows, ROWS_OF_3001, 3, 40)

    def test_rows_of_all_lengths_together_may_be_more(self):
        self.same(len(rows(STREAM, 1, 22)), 2048)
        self.same(len(rows(STREAM, 1, 21)), 2048)
        self.raises(TooMany, {"most": 3000}, rows, STREAM, 1, 23)

    def test_all_against_the_words_of_the_document(self):
        for cast in ALL:
            for size in (1, 2):
                for many in range(3):
                    self.check_rows(cast, size, many)

    def check_rows(self, cast, size, many):
        found = [row for row in itertools.product(all_doings(cast), repeat=many) if Show(cast, size, row).done]
        self.same(rows(cast, size, many), found, (cast, size))
        self.same(count_rows(cast, size, many), len(found), (cast, size))

    def test_longer_rows_are_rows_and_a_doing(self):
        compared = 0
        for cast in ALL:
            for many in range(3, 9):
                if max([count_rows(cast, 1, fewer) for fewer in range(many + 2)]) < 500:
                    found = [row + (doing,) for row in rows(cast, 1, many) for doing in doings(cast, 1, row)]
                    self.same(rows(cast, 1, many + 1), found, cast)
                    self.same(count_rows(cast, 1, many + 1), len(found), cast)
                    compared += len(found) > 0
        self.assertGreater(compared, 50)

    def test_lists_are_new(self):
        rows(ONE_TALK, 1, 0).append("more")
        self.same(rows(ONE_TALK, 1, 0), [()])


if __name__ == "__main__":
    unittest.main()
