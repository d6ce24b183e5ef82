"""Scripts rebuilt out of casts, and scripts whose parts do the same (points 30 and 31)."""

from roletalks.basics import has_items, is_number, new_names
from roletalks.cuts import cut
from roletalks.errors import BadNumber, NotMade, TooMany
from roletalks.parts import behind_events, same_parts
from roletalks.scripts import MOST_SCENES, check_script
from roletalks.stage import check_cast, is_over
from roletalks.standins import check_plain


def check_states(states, cast):
    """Raise BadNumber unless a value is a tuple of states, one for each part of a cast."""
    if not has_items(states, len(cast), len(cast)):
        raise BadNumber("not one state for each part")
    for state, part in zip(states, cast):
        if not is_number(state, 0, len(part) - 1):
            raise BadNumber("a state that the part does not have")


def steps_in(cast, states, actor):
    """The steps of an actor in a tuple of states."""
    _, steps = cast[actor][states[actor]]
    return steps


def heard_in(cast, states, hearer):
    """The states behind the events of a hearer in a tuple of states, by event."""
    return behind_events(cast[hearer][states[hearer]])


def is_ready(cast, states, actor):
    """Tell whether an actor may say something and hears nothing, and all that may be said is heard."""
    steps = steps_in(cast, states, actor)
    return len(steps) > 0 and all([kind == "say" and ("hear", actor, word) in heard_in(cast, states, other)
                                   for kind, other, word, _ in steps])


def ready_in(cast, states):
    """The ascending tuple of the ready actors in a tuple of states."""
    return tuple([actor for actor in range(len(cast)) if is_ready(cast, states, actor)])


def ready_actors(cast, states):
    """The ascending tuple of the ready actors in a tuple of states."""
    check_cast(cast)
    check_states(states, cast)
    check_plain(cast)
    return ready_in(cast, states)


def talks_in(cast, states):
    """The talks of the least ready actor, each with the tuple of states behind it; none if nobody is ready."""
    ready = ready_in(cast, states)
    if not ready:
        return []
    speaker = ready[0]
    found = []
    for _, hearer, word, there in steps_in(cast, states, speaker):
        then = list(states)
        then[speaker] = there
        then[hearer] = heard_in(cast, states, hearer)[("hear", speaker, word)]
        found.append(((speaker, hearer, word), tuple(then)))
    return found


def first_places(cast):
    """The tuples of states that come, in the order of their coming: all of them, or the first ones, more than eight."""
    order = [(0,) * len(cast)]
    at = 0
    while at < len(order) and len(order) <= MOST_SCENES:
        states = order[at]
        for _, there in talks_in(cast, states):
            if there not in order:
                order.append(there)
        at += 1
    return order


def rebuilt(cast):
    """The script of the states that come if each time the least ready actor speaks."""
    check_cast(cast)
    check_plain(cast)
    order = first_places(cast)
    # The ninth is too many at once only if it comes ahead of all places that are wrong, so it is looked at, too.
    for states in order[:MOST_SCENES + 1]:
        if not ready_in(cast, states) and not is_over(cast, (states, ())):
            raise NotMade("nobody is ready, and not all may rest")
    if len(order) > MOST_SCENES:
        raise TooMany(MOST_SCENES)
    names = new_names(order)
    return len(cast), tuple([rebuilt_scene(talks_in(cast, states), names) for states in order])


def rebuilt_scene(talks, names):
    """The scene of the talks of one speaker, each with the place behind it, for which there are names."""
    if not talks:
        return None
    first, _ = talks[0]
    return first[0], tuple([(talk[1], talk[2], names[there]) for talk, there in talks])


def are_alike(one, other):
    """Tell whether two scripts have as many actors, whose parts do the same."""
    check_script(one)
    check_script(other)
    return one[0] == other[0] and unlike_actors(one, other) == ()


def unlike_actors(one, other):
    """The ascending tuple of the actors whose parts in two scripts do not do the same."""
    check_script(one)
    check_script(other)
    if one[0] != other[0]:
        raise NotMade("unlike numbers of actors")
    return tuple([actor for actor in range(one[0]) if not same_parts(cut(one, actor), cut(other, actor))])
