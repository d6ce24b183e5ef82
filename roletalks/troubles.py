"""Trouble that a cast comes to, and casts that do what does not fit a script (points 20 to 22)."""

from roletalks.basics import check_number, least_row_to
from roletalks.errors import BadCast, TooMany
from roletalks.scripts import MOST_TALKS, check_script
from roletalks.stage import MOST_COMING, Stage, check_stage, first_position, is_over, position_web
from roletalks.views import scenes_behind, views_of


def trouble_at(cast, position, steps):
    """The kind of trouble at a position with these steps, None without any."""
    if steps or is_over(cast, position):
        return None
    _, letters = position
    return "unread" if letters else "stuck"


def trouble_web(cast, size):
    """The kind of trouble, or None, at each position that comes, in the order of their coming, and their web."""
    positions, web = position_web(cast, size)
    return [trouble_at(cast, position, steps) for position, steps in zip(positions, web)], web


def troubles(cast, size):
    """The ascending tuple of the kinds of trouble that come."""
    kinds, _ = trouble_web(cast, size)
    return tuple([kind for kind in ("stuck", "unread") if kind in kinds])


def is_calm(cast, size):
    """Tell whether no trouble comes."""
    return troubles(cast, size) == ()


def first_trouble(cast, size):
    """The kind of trouble behind the least of the shortest rows to trouble, and that row; None without any."""
    kinds, web = trouble_web(cast, size)
    for place, kind in enumerate(kinds):
        if kind is not None:
            return kind, least_row_to(web, place)
    return None


def first_off(script, cast, size, many):
    """The least of the shortest rows of at most many doings that do not fit a script, None without one."""
    check_script(script)
    check_stage(cast, size)
    check_number(many, 0, MOST_TALKS)
    if len(cast) != script[0]:
        raise BadCast(None)
    stage = Stage(cast, size)
    last = [((), first_position(cast))]
    come = 0
    for _ in range(many):
        last = unlike_rows(stage, last)
        for row, _ in last:
            if not scenes_behind(script, views_of(row, len(cast)), True):
                return row
        come += len(last)
        if come > MOST_COMING:
            raise TooMany(MOST_COMING)
    return None


def unlike_rows(stage, last):
    """The rows one doing longer than the last ones, with their positions, the least row alone of each views.

    Rows with the same views come to the same position and fit the same scripts. If the last ones are
    ascending, the longer ones are, and the first row with some views is the least one.
    """
    found = {}
    for row, position in last:
        for doing, there in stage.kept_steps(position):
            longer = row + (doing,)
            found.setdefault(views_of(longer, len(stage.cast)), (longer, there))
    return list(found.values())


def keeps_to(script, cast, size, many):
    """Tell whether all rows of at most many doings that can be done fit a script."""
    return first_off(script, cast, size, many) is None
