"""Whether the parts of a script can perform it: sound scripts and their faults (points 11 to 13)."""

from roletalks.basics import check_actor, grown
from roletalks.cuts import event_of, joined_sets, mixed_states, set_web
from roletalks.scripts import check_scene, check_script, talk_web


def bad_says(script, actor):
    """The ascending tuple of (state, hearer, word) of what cannot be said in all scenes of a state's set."""
    check_script(script)
    check_actor(actor, script[0])
    events = events_near(talk_web(script), actor)
    sets, web = set_web(script, actor)
    return tuple([(state,) + event[1:] for state in range(len(web)) for event, _ in web[state]
                  if event[0] == "say" and not all([event in events[scene] for scene in sets[state]])])


def events_near(web, actor):
    """For each scene, the actor's events in it and in all that follow it by others' talk alone."""
    here = [[event_of(talk, actor) for talk, _ in steps] for steps in web]
    return [[event for scene in scenes for event in here[scene] if event is not None]
            for scenes in joined_sets(web, actor)]


def first_letters(script, scene, actor):
    """The ascending tuple of (speaker, word) of first letters to an actor who keeps still from a scene on."""
    check_script(script)
    check_scene(scene, script)
    check_actor(actor, script[0])
    return letters_from(talk_web(script), scene, actor)


def letters_from(web, scene, actor):
    """The first letters to an actor from a scene of a web on.

    What comes is looked at as moments (scene, who keeps still, who has told the actor something),
    for the talks before matter in no other way.
    """
    moments, talks = grown((scene, (actor,), ()), lambda moment: moments_behind(web, moment, actor), None)
    found = {}
    for (_, still, told), steps in zip(moments, talks):
        for (speaker, hearer, word), _ in steps:
            if hearer == actor and speaker not in still + told:
                found[(speaker, word)] = True
    return tuple(sorted(found))


def moments_behind(web, moment, actor):
    """The talks that can be next at a moment, ascending, each with the moment behind it."""
    scene, still, told = moment
    found = []
    for talk, there in web[scene]:
        speaker, hearer, _ = talk
        still_then = with_one(still, hearer) if speaker in still else still
        told_then = with_one(told, speaker) if hearer == actor else told
        found.append((talk, (there, still_then, told_then)))
    return found


def with_one(actors, actor):
    """The ascending tuple of some actors and one, who may be among them."""
    return tuple(sorted(set(actors + (actor,))))


def bad_hears(script, actor):
    """The ascending tuple of (state, speaker, word, other speaker, other word) of what may be heard too early.

    The letter of the one speaker may be there already where that of the other one is to be heard.
    """
    check_script(script)
    check_actor(actor, script[0])
    talks = talk_web(script)
    letters = [letters_from(talks, scene, actor) for scene in range(len(talks))]
    sets, web = set_web(script, actor)
    found = []
    for state, steps in enumerate(web):
        heard = [(event[1:], there) for event, there in steps if event[0] == "hear"]
        for one, _ in heard:
            for other, there in heard:
                if one[0] != other[0] and any([one in letters[scene] for scene in sets[there]]):
                    found.append((state,) + one + other)
    return tuple(found)


def fault(script):
    """The pair of the least actor with a fault and its first kind of fault, None without one."""
    check_script(script)
    for actor in range(script[0]):
        if mixed_states(script, actor):
            return actor, "mixed"
        if bad_says(script, actor):
            return actor, "say"
        if bad_hears(script, actor):
            return actor, "hear"
    return None


def is_sound(script):
    """Tell whether no actor has a fault."""
    return fault(script) is None
