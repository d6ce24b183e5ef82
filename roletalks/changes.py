"""Scripts, casts and parts with a change (points 32 to 35)."""

from roletalks.basics import LAST_WORD, check_actor, check_number, has_items, is_number
from roletalks.errors import BadBranch, BadEvents, BadNames, BadNumber, NotMade, TooMany
from roletalks.parts import behind_events, check_part, is_event
from roletalks.scripts import MOST_SCENES, check_scene, check_script, renamed_scene
from roletalks.stage import check_cast


def check_names(names, many):
    """Raise BadNames unless a value is a tuple of all numbers below many."""
    if not has_items(names, many, many) or not all([is_number(name, 0, many - 1) for name in names]):
        raise BadNames(f"no tuple of {many} names")
    if len(set(names)) < many:
        raise BadNames("a name twice")


def with_new_names(script, actors, words):
    """The script in which actors and words have new names."""
    many, scenes = script
    changed = []
    for scene in scenes:
        if scene is None:
            changed.append(None)
        else:
            speaker, branches = scene
            named = [(actors[hearer], words[word], there) for hearer, word, there in branches]
            changed.append((actors[speaker], tuple(sorted(named))))
    return many, tuple(changed)


def renamed_actors(script, names):
    """The script in which each actor has a new name."""
    check_script(script)
    check_names(names, script[0])
    return with_new_names(script, names, list(range(LAST_WORD + 1)))


def renamed_words(script, names):
    """The script in which each word has a new name."""
    check_script(script)
    check_names(names, LAST_WORD + 1)
    return with_new_names(script, list(range(script[0])), names)


def branches_of(scene):
    """The branches of a scene, none of an end."""
    if scene is None:
        return ()
    _, branches = scene
    return branches


def check_branch(script, scene, place):
    """Raise BadScript, BadScene or BadBranch unless there is a branch at a place of a scene of a script."""
    check_script(script)
    check_scene(scene, script)
    if not is_number(place, 0, len(branches_of(script[1][scene])) - 1):
        raise BadBranch("no place of a branch")


def replaced(values, at, value):
    """The tuple with another value at a place."""
    return values[:at] + (value,) + values[at + 1:]


def with_branches(script, scene, branches):
    """The script with other branches of a scene, which is no end."""
    actors, scenes = script
    speaker, _ = scenes[scene]
    return actors, replaced(scenes, scene, (speaker, branches))


def without(script, scene, place):
    """The script without the branch at a place of a scene."""
    check_branch(script, scene, place)
    branches = branches_of(script[1][scene])
    if len(branches) == 1:
        raise NotMade("this is the only branch")
    return with_branches(script, scene, branches[:place] + branches[place + 1:])


def led(script, scene, place, there):
    """The script in which the branch at a place of a scene leads to another scene."""
    check_branch(script, scene, place)
    check_scene(there, script)
    branches = branches_of(script[1][scene])
    hearer, word, _ = branches[place]
    return with_branches(script, scene, replaced(branches, place, (hearer, word, there)))


def only_talk(scene):
    """The talk of the only branch of a scene, and the scene behind it; NotMade if there is not just one branch."""
    if len(branches_of(scene)) != 1:
        raise NotMade("not just one branch")
    speaker, branches = scene
    hearer, word, there = branches[0]
    return speaker, hearer, word, there


def swapped(script, scene):
    """The script in which the only talk of a scene comes behind the only one of the next scene."""
    check_script(script)
    check_scene(scene, script)
    actors, scenes = script
    speaker, hearer, word, there = only_talk(scenes[scene])
    later_speaker, later_hearer, later_word, last = only_talk(scenes[there])
    if speaker in (later_speaker, later_hearer) or hearer in (later_speaker, later_hearer):
        raise NotMade("an actor is in both talks")
    check_scenes(len(scenes) + 1)
    first = (later_speaker, ((later_hearer, later_word, len(scenes)),))
    return actors, replaced(scenes, scene, first) + ((speaker, ((hearer, word, last),)),)


def check_scenes(many):
    """Raise TooMany if a script cannot have so many scenes."""
    if many > MOST_SCENES:
        raise TooMany(MOST_SCENES)


def check_actors_alike(one, other):
    """Raise NotMade unless two scripts have as many actors."""
    if one[0] != other[0]:
        raise NotMade("unlike numbers of actors")


def moved(scenes, by):
    """The scenes as they are behind so many others."""
    names = {at: at + by for at in range(len(scenes))}
    return tuple([renamed_scene(scene, names) for scene in scenes])


def followed_by(one, other):
    """The script that goes on with another one where it ends."""
    check_script(one)
    check_script(other)
    check_actors_alike(one, other)
    actors, scenes = one
    check_scenes(len(scenes) + len(other[1]))
    later = moved(other[1], len(scenes))
    return actors, tuple([later[0] if scene is None else scene for scene in scenes]) + later


def chosen(speaker, hearer, one, other):
    """The script in which a speaker tells a hearer with which of two scripts to go on."""
    check_script(one)
    check_script(other)
    actors, scenes = one
    check_actor(speaker, actors)
    check_actor(hearer, actors)
    check_actors_alike(one, other)
    if speaker == hearer:
        raise NotMade("an actor does not talk with itself")
    behind = 1 + len(scenes)
    check_scenes(behind + len(other[1]))
    first = (speaker, ((hearer, 0, 1), (hearer, 1, behind)))
    return actors, (first,) + moved(scenes, 1) + moved(other[1], behind)


def repeated(script):
    """The script in which each branch to an end leads to scene 0 instead."""
    check_script(script)
    actors, scenes = script
    if scenes[0] is None:
        raise NotMade("scene 0 is an end")
    names = {at: 0 if scene is None else at for at, scene in enumerate(scenes)}
    return actors, tuple([renamed_scene(scene, names) for scene in scenes])


def with_part(cast, actor, part):
    """The cast with another part for an actor."""
    check_cast(cast)
    check_actor(actor, len(cast))
    check_part(part)
    return replaced(cast, actor, part)


def check_state_of(part, state):
    """Raise BadPart or BadNumber unless the values are a part and one of its states."""
    check_part(part)
    check_number(state, 0, len(part) - 1)


def check_event(event):
    """Raise BadEvents unless a value is an event."""
    if not is_event(event):
        raise BadEvents(None)


def without_event(part, state, event):
    """The part without a step of a state."""
    check_state_of(part, state)
    check_event(event)
    rest, steps = part[state]
    if event not in behind_events(part[state]):
        raise NotMade("the state has no such step")
    return replaced(part, state, (rest, tuple([step for step in steps if step[:3] != event])))


def plus_event(part, state, event, there):
    """The part with a step more of a state."""
    check_state_of(part, state)
    check_event(event)
    check_number(there, 0, len(part) - 1)
    rest, steps = part[state]
    if event in behind_events(part[state]):
        raise NotMade("the state has such a step")
    return replaced(part, state, (rest, tuple(sorted(steps + (event + (there,),)))))


def resting(part, state, rest):
    """The part in which a state may rest, or may not."""
    check_state_of(part, state)
    if not isinstance(rest, bool):
        raise BadNumber("neither True nor False")
    _, steps = part[state]
    return replaced(part, state, (rest, steps))
