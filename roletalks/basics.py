"""What the other modules share: kinds of values, and webs of numbered places.

A web is a list that has, for each place 0, 1, .., the list of its steps: pairs of a mark
(a talk or an event) and the place behind it, the marks ascending, no mark twice.
Scripts are read as webs of scenes, parts as webs of states.
"""

from roletalks.errors import BadActor, BadNumber, TooMany

LAST_WORD = 5


def is_number(value, least, most):
    """Tell whether a value is an integer from least to most."""
    # Python counts True and False among the integers, the document does not.
    return isinstance(value, int) and not isinstance(value, bool) and least <= value <= most


def has_items(value, least, most):
    """Tell whether a value is a tuple of least to most items."""
    return isinstance(value, tuple) and least <= len(value) <= most


def is_rising(values):
    """Tell whether each of some values is greater than the one before it."""
    return all([values[at] < values[at + 1] for at in range(len(values) - 1)])


def check_number(value, least, most):
    """Raise BadNumber unless a value is an integer from least to most."""
    if not is_number(value, least, most):
        raise BadNumber(f"no integer from {least} to {most}")


def check_actor(value, actors):
    """Raise BadActor unless a value is one of so many actors."""
    if not is_number(value, 0, actors - 1):
        raise BadActor(f"no actor from 0 to {actors - 1}")


def grown(start, steps_from, most):
    """The things that come from a start on, in the order of their coming, and the web of their places in it.

    steps_from tells the steps of a thing: pairs of a mark and the thing behind it, the marks ascending.
    More than most things are TooMany, unless most is None.
    """
    things = [start]
    places = {start: 0}
    web = []
    while len(web) < len(things):
        steps = steps_from(things[len(web)])
        for _, there in steps:
            if there not in places:
                if most is not None and len(things) == most:
                    raise TooMany(most)
                places[there] = len(things)
                things.append(there)
        web.append([(mark, places[there]) for mark, there in steps])
    return things, web


def coming(web, start):
    """The places that come from a start on, in the order of their coming."""
    order = [start]
    seen = {start: True}
    at = 0
    while at < len(order):
        place = order[at]
        for _, there in web[place]:
            if there not in seen:
                seen[there] = True
                order.append(there)
        at += 1
    return order


def new_names(order):
    """The new name of each place: where it stands in an order."""
    return {place: at for at, place in enumerate(order)}


def least_row_to(web, goal):
    """The least of the shortest rows of marks from place 0 to a place that comes.

    In the order of coming each place is first found behind the least of the shortest rows to it.
    """
    found_by = {0: None}
    for place in coming(web, 0):
        for mark, there in web[place]:
            found_by.setdefault(there, (place, mark))
    row = []
    while goal != 0:
        goal, mark = found_by[goal]
        row.append(mark)
    return tuple(row[::-1])


def place_behind(web, row):
    """The place behind a row of marks from place 0, None if the row cannot be."""
    place = 0
    for mark in row:
        steps = dict(web[place])
        if mark not in steps:
            return None
        place = steps[mark]
    return place


def counts_to(web, goals, many):
    """For each length from 0 to many, and each place: how many rows lead from it to a goal."""
    counts = [[int(place in goals) for place in range(len(web))]]
    for length in range(many):
        shorter = counts[length]
        counts.append([sum([shorter[there] for _, there in steps]) for steps in web])
    return counts


def rows_to(web, goals, many):
    """The ascending list of the rows of many marks that lead from place 0 to a goal."""
    counts = counts_to(web, goals, many)
    found = [((), 0)] if counts[many][0] else []
    for left in reversed(range(many)):
        # A beginning that no row completes is dropped at once: there may be far more of these than rows.
        found = [(row + (mark,), there) for row, place in found for mark, there in web[place] if counts[left][there]]
    return [row for row, _ in found]
