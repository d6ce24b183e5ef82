"""Parts: what one actor says and hears (points 6 to 8)."""

from roletalks.basics import LAST_WORD, check_number, coming, has_items, is_number, is_rising
from roletalks.basics import new_names, place_behind, rows_to
from roletalks.errors import BadEvents, BadPart

KINDS = ("hear", "say")
LAST_ACTOR = 3
MOST_STATES = 255
MOST_EVENTS = 12


def check_part(part):
    """Raise BadPart unless a value is a part."""
    if not has_items(part, 1, MOST_STATES):
        raise BadPart(None)
    for index, state in enumerate(part):
        if not is_state(state, len(part)):
            raise BadPart(index)


def is_part(value):
    """Tell whether a value is a part."""
    return has_items(value, 1, MOST_STATES) and all([is_state(state, len(value)) for state in value])


def is_state(value, many):
    """Tell whether a value is a state of a part of so many states."""
    if not has_items(value, 2, 2):
        return False
    rest, steps = value
    if not isinstance(rest, bool) or not isinstance(steps, tuple):
        return False
    if not all([is_step(step, many) for step in steps]):
        return False
    return is_rising([step[:3] for step in steps])


def is_step(value, many):
    """Tell whether a value is a step in a part of so many states."""
    return has_items(value, 4, 4) and is_event(value[:3]) and is_number(value[3], 0, many - 1)


def is_event(value):
    """Tell whether a value is an event."""
    if not has_items(value, 3, 3):
        return False
    kind, other, word = value
    return kind in KINDS and is_number(other, 0, LAST_ACTOR) and is_number(word, 0, LAST_WORD)


def check_events(events):
    """Raise BadEvents unless a value is a row of events."""
    if not has_items(events, 0, MOST_EVENTS):
        raise BadEvents(None)
    for index, event in enumerate(events):
        if not is_event(event):
            raise BadEvents(index)


def event_web(part):
    """The web of the states of a part, with events as marks."""
    return [[(step[:3], step[3]) for step in steps] for _, steps in part]


def behind_events(state):
    """The states behind the events of a state, by event, the events ascending."""
    _, steps = state
    return {step[:3]: step[3] for step in steps}


def states_that_come(part):
    """The states that come, in the order of their coming."""
    check_part(part)
    return coming(event_web(part), 0)


def trimmed_part(part):
    """The part of the states that come alone, named in the order of their coming."""
    check_part(part)
    return part_that_comes(part)


def part_that_comes(part):
    """The part of the states that come alone; a part that is made here may have any number of states."""
    order = coming(event_web(part), 0)
    names = new_names(order)
    return tuple([renamed_state(part[state], names) for state in order])


def renamed_state(state, names):
    """A state whose steps lead to the new names of their next states."""
    rest, steps = state
    return rest, tuple([(kind, other, word, names[there]) for kind, other, word, there in steps])


def others(part):
    """The ascending tuple of the actors in steps of states that come."""
    return tuple(sorted({step[1] for state in states_that_come(part) for step in part[state][1]}))


def may_rest(part):
    """The ascending tuple of the states that come and may rest."""
    return tuple([state for state in sorted(states_that_come(part)) if part[state][0]])


def behind(part, events):
    """The state behind a row of events from state 0, None if the row cannot be."""
    check_part(part)
    check_events(events)
    return place_behind(event_web(part), events)


def runs(part, many):
    """The ascending list of the rows of many events that can be."""
    check_part(part)
    check_number(many, 0, MOST_EVENTS)
    return rows_to(event_web(part), list(range(len(part))), many)


def resting_runs(part, many):
    """The ascending list of the rows of many events behind which the part may rest."""
    check_part(part)
    check_number(many, 0, MOST_EVENTS)
    resting = [state for state in range(len(part)) if part[state][0]]
    return rows_to(event_web(part), resting, many)


def is_plain(part):
    """Tell whether all states that come are plain."""
    return all([is_plain_state(part[state]) for state in states_that_come(part)])


def is_plain_state(state):
    """Tell whether a state only says and may not rest, only hears, or has no steps and may rest."""
    rest, steps = state
    kinds = [step[0] for step in steps]
    hears = "hear" in kinds
    if "say" in kinds:
        return not hears and not rest
    return hears or rest


def same_parts(one, other):
    """Tell whether the first states of two parts do the same."""
    # Parts that do the same have one and the same least part, down to the names of its states.
    return least_part(one) == least_part(other)


def least_part(part):
    """The part of fewest states that does the same, named in the order of their coming."""
    check_part(part)
    return part_of_fewest(part)


def part_of_fewest(part):
    """The part of fewest states that does the same; a part that is made here may have any number of states."""
    groups = alike_groups(part)
    firsts = [groups.index(group) for group in range(max(groups) + 1)]
    return part_that_comes(tuple([renamed_state(part[state], groups) for state in firsts]))


def alike_groups(part):
    """For each state the number of its group, those that do the same being in one group."""
    groups = numbered([rest for rest, _ in part])
    while True:
        finer = numbered([(groups[at], renamed_state(part[at], groups)) for at in range(len(part))])
        if max(finer) == max(groups):
            return groups
        groups = finer


def numbered(marks):
    """The number of each mark, equal ones having one number, in the order in which they first stand."""
    numbers = {}
    for mark in marks:
        numbers.setdefault(mark, len(numbers))
    return [numbers[mark] for mark in marks]


def count_states(part):
    """The number of states of the least part that does the same."""
    return len(least_part(part))
