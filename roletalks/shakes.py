"""Two parts that shake hands: both go on at once when one says and the other hears a word (points 28 and 29)."""

from roletalks.basics import check_number, grown, least_row_to, place_behind, rows_to
from roletalks.scripts import MOST_TALKS, check_talks
from roletalks.stage import check_cast


def words_of(state, kind):
    """The states behind the words that a state says, or hears, by word."""
    _, steps = state
    return {word: there for named, _, word, there in steps if named == kind}


def talks_at(one, other, pair):
    """The talks that can be at a pair of states, ascending, each with the pair behind it."""
    state, other_state = one[pair[0]], other[pair[1]]
    found = meetings((0, 1), words_of(state, "say"), words_of(other_state, "hear"))
    back = meetings((1, 0), words_of(other_state, "say"), words_of(state, "hear"))
    return found + [(talk, (there, other_there)) for talk, (other_there, there) in back]


def meetings(actors, said, heard):
    """The talks of a speaker and a hearer, ascending, each with the pair of the speaker's and the hearer's state."""
    return [(actors + (word,), (said[word], heard[word])) for word in said if word in heard]


def shake_web(one, other):
    """The pairs of states that come, in the order of their coming, and their web."""
    check_cast((one, other))
    return grown((0, 0), lambda pair: talks_at(one, other, pair), None)


def shaken(one, other, talks):
    """The pair of states behind a row of talks, None if it cannot be."""
    check_cast((one, other))
    check_talks(talks, 2)
    pairs, web = shake_web(one, other)
    place = place_behind(web, talks)
    return None if place is None else pairs[place]


def shake_pairs(one, other):
    """The ascending list of the pairs of states that come."""
    pairs, _ = shake_web(one, other)
    return sorted(pairs)


def shake_rows(one, other, many):
    """The ascending list of the rows of many talks that can be."""
    check_cast((one, other))
    check_number(many, 0, MOST_TALKS)
    _, web = shake_web(one, other)
    return rows_to(web, list(range(len(web))), many)


def clash_at(state, other_state):
    """The kind of clash that a pair of states is, None if it is none."""
    said = words_of(state, "say")
    said_back = words_of(other_state, "say")
    heard = words_of(other_state, "hear")
    heard_back = words_of(state, "hear")
    if not all([word in heard for word in said]) or not all([word in heard_back for word in said_back]):
        return "deaf"
    if said or said_back or (state[0] and other_state[0]):
        return None
    return "stuck"


def first_clash(one, other):
    """The kind of clash behind the least of the shortest rows to a clash, and that row; None without any."""
    pairs, web = shake_web(one, other)
    for place, (state, other_state) in enumerate(pairs):
        kind = clash_at(one[state], other[other_state])
        if kind is not None:
            return kind, least_row_to(web, place)
    return None


def shakes_well(one, other):
    """Tell whether no clash comes."""
    return first_clash(one, other) is None
