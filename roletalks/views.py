"""What each actor sees of a row of doings, and rows that fit a script (points 18 and 19)."""

from roletalks.basics import grown
from roletalks.cuts import event_of
from roletalks.scripts import check_script, check_talks, talk_web
from roletalks.stage import check_cast, check_row


def views_of(row, actors):
    """The tuple, for each of so many actors, of its events of a row of doings, in their order."""
    return tuple([tuple([doing[1:] for doing in row if doing[0] == actor]) for actor in range(actors)])


def views(cast, row):
    """The tuple, for each actor of a cast, of its events of a row of doings, in their order."""
    check_cast(cast)
    check_row(row, len(cast))
    return views_of(row, len(cast))


def same_views(cast, one, other):
    """Tell whether two rows have the same views."""
    check_cast(cast)
    check_row(one, len(cast))
    check_row(other, len(cast))
    return views_of(one, len(cast)) == views_of(other, len(cast))


def done_behind(seen, done, talk, goes_on):
    """How many of the events in views are done behind a talk, None if the talk does not go with the views.

    An actor all of whose events are done has more talks only if the way goes on behind the views.
    """
    then = list(done)
    for actor in talk[:2]:
        if done[actor] == len(seen[actor]):
            if not goes_on:
                return None
        elif seen[actor][done[actor]] == event_of(talk, actor):
            then[actor] += 1
        else:
            return None
    return tuple(then)


def steps_along(web, seen, goes_on, scene, done):
    """The talks of a scene that go with views, each with the scene and the numbers of events behind it."""
    found = []
    for talk, there in web[scene]:
        then = done_behind(seen, done, talk, goes_on)
        if then is not None:
            found.append((talk, (there, then)))
    return found


def scenes_behind(script, seen, goes_on):
    """The scenes to which ways lead that go with views until all events of them are done."""
    web = talk_web(script)
    start = (0, (0,) * len(seen))
    found, _ = grown(start, lambda place: steps_along(web, seen, goes_on, place[0], place[1]), None)
    goal = tuple([len(events) for events in seen])
    return [scene for scene, done in found if done == goal]


def fits(script, row):
    """Tell whether there is a way whose events begin, for each actor, with those of a row of doings."""
    check_script(script)
    check_row(row, script[0])
    return len(scenes_behind(script, views_of(row, script[0]), True)) > 0


def fits_whole(script, row):
    """Tell whether there is a way to an end whose events are, for each actor, just those of a row of doings."""
    check_script(script)
    check_row(row, script[0])
    return any([script[1][scene] is None for scene in scenes_behind(script, views_of(row, script[0]), False)])


def row_of_way(script, talks):
    """The row of doings of a row of talks, each word heard right behind it is said."""
    check_script(script)
    check_talks(talks, script[0])
    found = []
    for speaker, hearer, word in talks:
        found.append((speaker, "say", hearer, word))
        found.append((hearer, "hear", speaker, word))
    return tuple(found)
