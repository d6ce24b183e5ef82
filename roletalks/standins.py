"""Parts that stand in for others, and what is between or over two of them (points 23 to 27)."""

from roletalks.basics import check_actor, grown, least_row_to
from roletalks.errors import NotMade
from roletalks.parts import LAST_ACTOR, behind_events, check_part, is_plain, may_rest, others, part_of_fewest
from roletalks.parts import part_that_comes, states_that_come

OPPOSITE_KINDS = {"say": "hear", "hear": "say"}


def check_plain(some):
    """Raise BadPart or NotMade unless all of some values are plain parts."""
    for part in some:
        check_part(part)
    for part in some:
        if not is_plain(part):
            raise NotMade("a state that comes is not plain")


def speaks(state):
    """Tell whether a plain state says something."""
    return has_kind(state, "say")


def has_kind(state, kind):
    """Tell whether a state has a step of a kind."""
    _, steps = state
    return kind in [step[0] for step in steps]


def pair_fits(one, other):
    """Tell whether a plain state may be paired with another one, whatever is behind them."""
    if one[0] != other[0] or speaks(one) != speaks(other):
        return False
    less, more = (one, other) if speaks(one) else (other, one)
    return all([event in behind_events(more) for event in behind_events(less)])


def common_steps(one, other):
    """The events that two states both have, ascending, each with the pair of states behind it."""
    behind_one = behind_events(one)
    behind_other = behind_events(other)
    return [(event, (behind_one[event], behind_other[event])) for event in behind_one if event in behind_other]


def why_not(one, other):
    """The least of the shortest rows of events to a pair that does not fit, None if one stands in for the other."""
    check_plain((one, other))
    # Where a pair fits, the one says no more than the other one and hears no less: what both have leads on.
    pairs, web = grown((0, 0), lambda pair: common_steps(one[pair[0]], other[pair[1]]), None)
    for place, (state, other_state) in enumerate(pairs):
        if not pair_fits(one[state], other[other_state]):
            return least_row_to(web, place)
    return None


def stands_in(one, other):
    """Tell whether one part stands in for the other."""
    return why_not(one, other) is None


def is_narrower(one, other):
    """Tell whether one part stands in for the other, and not the other way round."""
    return stands_in(one, other) and not stands_in(other, one)


def opposite(part, actor):
    """The part of the one with whom the part of an actor talks."""
    check_part(part)
    check_actor(actor, LAST_ACTOR + 1)
    check_plain((part,))
    check_has_opposite(part)
    if actor in others(part):
        raise NotMade("an actor does not talk with itself")
    return turned(part, actor)


def check_has_opposite(part):
    """Raise NotMade unless a plain part talks with one other at most and rests nowhere where it hears."""
    if len(others(part)) > 1:
        raise NotMade("the part talks with more than one other")
    if any([has_kind(part[state], "hear") for state in may_rest(part)]):
        raise NotMade("the part may rest where it hears")


def turned(part, actor):
    """The trimmed part with the other kind of each step, with an actor."""
    return tuple([(rest, tuple([(OPPOSITE_KINDS[kind], actor, word, there) for kind, _, word, there in steps]))
                  for rest, steps in part_that_comes(part)])


def common_stand_in(one, other):
    """The least part that does the same as the greatest one that stands in for both; None without any."""
    check_plain((one, other))
    return met(one, other)


def met(one, other):
    """What common_stand_in tells of two plain parts.

    Its states are made of pairs of states. Where the parts say something, it says what both say and
    can go on behind it; where they hear, it hears what one of them hears, and where that is not both,
    goes on as that one does, so that None stands for the state of the other one.
    """
    parts = (one, other)
    pairs, web = grown((0, 0), lambda pair: steps_of_both(parts, pair), None)
    speaking = [speaks(first_state(parts, pair)) for pair in pairs]
    lost = lost_places(web, speaking, [not can_meet(parts, pair) for pair in pairs])
    if lost[0]:
        return None
    return part_of_fewest(tuple([
        (first_state(parts, pair)[0], tuple([event + (there,) for event, there in steps if not lost[there]]))
        for pair, steps in zip(pairs, web)]))


def states_of(parts, pair):
    """The states of a pair, None for a part that does not go on."""
    return tuple([None if state is None else part[state] for part, state in zip(parts, pair)])


def first_state(parts, pair):
    """The first state of a pair that is one."""
    one, other = states_of(parts, pair)
    return other if one is None else one


def can_meet(parts, pair):
    """Tell whether there is a plain state with what a pair of states needs, whatever is behind it."""
    one, other = states_of(parts, pair)
    if one is None or other is None:
        return True
    if one[0] != other[0] or speaks(one) != speaks(other):
        return False
    return not speaks(one) or len(common_steps(one, other)) > 0


def steps_of_both(parts, pair):
    """The steps of a pair of states, ascending, None standing for no state; a pair that cannot meet has none."""
    if not can_meet(parts, pair):
        return []
    one, other = states_of(parts, pair)
    if one is not None and other is not None and speaks(one):
        return common_steps(one, other)
    behind_one = {} if one is None else behind_events(one)
    behind_other = {} if other is None else behind_events(other)
    return [(event, (behind_one.get(event), behind_other.get(event)))
            for event in sorted(set(list(behind_one) + list(behind_other)))]


def lost_places(web, speaking, lost):
    """Which places are lost: those lost at first, and those that then cannot be as they need.

    One that speaks needs one step that is not lost, one that hears needs all of its steps.
    """
    back = [[] for _ in web]
    for place, steps in enumerate(web):
        for _, there in steps:
            back[there].append(place)
    lost = list(lost)
    left = [len(steps) for steps in web]
    queue = [place for place in range(len(web)) if lost[place]]
    while queue:
        there = queue.pop()
        for place in back[there]:
            left[place] -= 1
            if not lost[place] and (left[place] == 0 or not speaking[place]):
                lost[place] = True
                queue.append(place)
    return lost


def least_over(one, other):
    """The least part that does the same as the least one for which both stand in; None without any."""
    check_plain((one, other))
    check_has_opposite(one)
    check_has_opposite(other)
    actors = sorted(set(others(one) + others(other)))
    if len(actors) > 1:
        raise NotMade("the parts talk with unlike others")
    # One part stands in for another one just if the opposite of that one stands in for its opposite.
    below = met(turned(one, 0), turned(other, 0))
    return None if below is None else turned(below, actors[0] if actors else 0)


def narrowest(part):
    """The least part in which each state that says something has its least event alone."""
    check_plain((part,))
    return part_of_fewest(tuple([(state[0], state[1][:1] if speaks(state) else state[1]) for state in part]))


def count_says(part):
    """The number of the say-steps of the states that come."""
    check_plain((part,))
    return sum([len(part[state][1]) for state in states_that_come(part) if speaks(part[state])])
