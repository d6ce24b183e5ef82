"""The parts that are cut out of a script, one for each actor (points 9 and 10)."""

from roletalks.basics import check_actor, coming, grown
from roletalks.scripts import check_scene, check_script, talk_web


def event_of(talk, actor):
    """The event that a talk is for an actor, None for others' talk."""
    speaker, hearer, word = talk
    if actor == speaker:
        return "say", hearer, word
    if actor == hearer:
        return "hear", speaker, word
    return None


def joined_sets(web, actor):
    """For each scene of a web, the ascending tuple of it and all that follow it by others' talk alone."""
    quiet = [[(talk, there) for talk, there in steps if event_of(talk, actor) is None] for steps in web]
    return [tuple(sorted(coming(quiet, scene))) for scene in range(len(quiet))]


def joined(script, scene, actor):
    """The ascending tuple of a scene and all scenes that follow it by others' talk alone."""
    check_script(script)
    check_scene(scene, script)
    check_actor(actor, script[0])
    return joined_sets(talk_web(script), actor)[scene]


def sets_behind(web, joins, scenes, actor):
    """The events out of a set of scenes, ascending, each with the set of scenes behind it."""
    behind = {}
    for scene in scenes:
        for talk, there in web[scene]:
            event = event_of(talk, actor)
            if event is not None:
                behind.setdefault(event, []).extend(joins[there])
    return [(event, tuple(sorted(set(behind[event])))) for event in sorted(behind)]


def set_web(script, actor):
    """The sets of scenes of the states of an actor's part, in the order of their coming, and their web."""
    web = talk_web(script)
    joins = joined_sets(web, actor)
    return grown(joins[0], lambda scenes: sets_behind(web, joins, scenes, actor), None)


def cut(script, actor):
    """The part of an actor."""
    check_script(script)
    check_actor(actor, script[0])
    sets, web = set_web(script, actor)
    return tuple([cut_state(script, scenes, steps) for scenes, steps in zip(sets, web)])


def cut_state(script, scenes, steps):
    """The state for a set of scenes, with its steps as a web has them."""
    may_end = any([script[1][scene] is None for scene in scenes])
    return may_end or not steps, tuple([event + (there,) for event, there in steps])


def cast_of(script):
    """The tuple of the parts of all actors."""
    check_script(script)
    return tuple([cut(script, actor) for actor in range(script[0])])


def scene_sets(script, actor):
    """The tuple of the sets of scenes of the states of an actor's part, in the order of the states."""
    check_script(script)
    check_actor(actor, script[0])
    return tuple(set_web(script, actor)[0])


def count_sets(script):
    """The tuple of the numbers of states of the parts of all actors."""
    check_script(script)
    return tuple([len(scene_sets(script, actor)) for actor in range(script[0])])


def mixed_states(script, actor):
    """The ascending tuple of the states of an actor's part that both say and hear."""
    part = cut(script, actor)
    return tuple([state for state in range(len(part)) if is_mixed(part[state][1])])


def is_mixed(steps):
    """Tell whether there is both a step that says and one that hears."""
    kinds = [step[0] for step in steps]
    return "say" in kinds and "hear" in kinds
