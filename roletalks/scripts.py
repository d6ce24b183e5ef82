"""Scripts and the talks that they can have (points 2 to 5)."""

from roletalks.basics import LAST_WORD, check_number, coming, counts_to, has_items, is_number, is_rising
from roletalks.basics import least_row_to, new_names, place_behind, rows_to
from roletalks.errors import BadScene, BadScript, BadTalks

LEAST_ACTORS = 2
MOST_ACTORS = 4
MOST_SCENES = 8
MOST_TALKS = 12


def check_script(script):
    """Raise BadScript unless a value is a script."""
    if not has_script_form(script):
        raise BadScript(None)
    actors, scenes = script
    for index, scene in enumerate(scenes):
        if not is_scene(scene, actors, len(scenes)):
            raise BadScript(index)


def has_script_form(value):
    """Tell whether a value is a script but for its scenes, which may be anything."""
    if not has_items(value, 2, 2):
        return False
    actors, scenes = value
    return is_number(actors, LEAST_ACTORS, MOST_ACTORS) and has_items(scenes, 1, MOST_SCENES)


def is_scene(value, actors, many):
    """Tell whether a value is a scene of a script of so many actors and so many scenes."""
    if value is None:
        return True
    if not has_items(value, 2, 2):
        return False
    speaker, branches = value
    if not isinstance(branches, tuple) or len(branches) == 0:
        return False
    # There is a branch, and each one is looked at together with its speaker.
    if not all([is_branch(branch, speaker, actors, many) for branch in branches]):
        return False
    return is_rising([branch[:2] for branch in branches])


def is_branch(value, speaker, actors, many):
    """Tell whether a value is a branch of a speaker's scene."""
    if not has_items(value, 3, 3):
        return False
    hearer, word, there = value
    return is_talk((speaker, hearer, word), actors) and is_number(there, 0, many - 1)


def is_talk(value, actors):
    """Tell whether a value is a talk of two of so many actors."""
    if not has_items(value, 3, 3):
        return False
    speaker, hearer, word = value
    if not is_number(speaker, 0, actors - 1) or not is_number(hearer, 0, actors - 1):
        return False
    return speaker != hearer and is_number(word, 0, LAST_WORD)


def check_talks(talks, actors):
    """Raise BadTalks unless a value is a row of talks of so many actors."""
    if not has_items(talks, 0, MOST_TALKS):
        raise BadTalks(None)
    for index, talk in enumerate(talks):
        if not is_talk(talk, actors):
            raise BadTalks(index)


def check_scene(scene, script):
    """Raise BadScene unless a value is the number of a scene of a script."""
    if not is_number(scene, 0, len(script[1]) - 1):
        raise BadScene(f"no scene from 0 to {len(script[1]) - 1}")


def talks_from(scene):
    """The talks of a scene, each with the scene behind it."""
    if scene is None:
        return []
    speaker, branches = scene
    return [((speaker, hearer, word), there) for hearer, word, there in branches]


def talk_web(script):
    """The web of the scenes of a script, with talks as marks."""
    return [talks_from(scene) for scene in script[1]]


def reached_scenes(script):
    """The ascending tuple of the scenes that come."""
    check_script(script)
    return tuple(sorted(coming(talk_web(script), 0)))


def end_scenes(script):
    """The ascending tuple of the ends that come."""
    return tuple([scene for scene in reached_scenes(script) if script[1][scene] is None])


def has_rounds(script):
    """Tell whether a scene that comes can come again behind itself."""
    check_script(script)
    web = talk_web(script)
    for scene in coming(web, 0):
        for _, there in web[scene]:
            if scene in coming(web, there):
                return True
    return False


def always_ends(script):
    """Tell whether an end can follow each scene that comes, or is that scene."""
    check_script(script)
    web = talk_web(script)
    for scene in coming(web, 0):
        if not any([script[1][there] is None for there in coming(web, scene)]):
            return False
    return True


def trimmed(script):
    """The script of the scenes that come alone, named in the order of their coming."""
    check_script(script)
    actors, scenes = script
    order = coming(talk_web(script), 0)
    names = new_names(order)
    return actors, tuple([renamed_scene(scenes[scene], names) for scene in order])


def renamed_scene(scene, names):
    """A scene whose branches lead to the new names of their next scenes."""
    if scene is None:
        return None
    speaker, branches = scene
    return speaker, tuple([(hearer, word, names[there]) for hearer, word, there in branches])


def speakers(script):
    """The ascending tuple of the actors who speak in scenes that come."""
    return tuple(sorted({speaker for speaker, _, _ in talks_that_come(script)}))


def silent(script):
    """The ascending tuple of the actors who have no talk in scenes that come."""
    busy = []
    for speaker, hearer, _ in talks_that_come(script):
        busy.extend([speaker, hearer])
    return tuple([actor for actor in range(script[0]) if actor not in busy])


def talks_that_come(script):
    """The talks of all scenes that come."""
    talks = []
    for scene in reached_scenes(script):
        talks.extend([talk for talk, _ in talks_from(script[1][scene])])
    return talks


def follow(script, talks):
    """The scene behind a row of talks, None if the row is no way."""
    check_script(script)
    check_talks(talks, script[0])
    return place_behind(talk_web(script), talks)


def all_scenes(script):
    """All scenes, for ways that may stop anywhere."""
    return list(range(len(script[1])))


def ends_of(script):
    """All ends, whether they come or not."""
    return [scene for scene in all_scenes(script) if script[1][scene] is None]


def ways(script, many):
    """The ascending list of the ways of many talks."""
    check_script(script)
    check_number(many, 0, MOST_TALKS)
    return rows_to(talk_web(script), all_scenes(script), many)


def whole_ways(script, many):
    """The ascending list of the ways of many talks that lead to an end."""
    check_script(script)
    check_number(many, 0, MOST_TALKS)
    return rows_to(talk_web(script), ends_of(script), many)


def count_ways(script, many):
    """The number of the ways of many talks."""
    check_script(script)
    check_number(many, 0, MOST_TALKS)
    return counts_to(talk_web(script), all_scenes(script), many)[many][0]


def count_whole(script, many):
    """The number of the ways of many talks that lead to an end."""
    check_script(script)
    check_number(many, 0, MOST_TALKS)
    return counts_to(talk_web(script), ends_of(script), many)[many][0]


def shortest_way(script):
    """The least of the shortest ways to an end, None without one."""
    check_script(script)
    web = talk_web(script)
    for scene in coming(web, 0):
        if script[1][scene] is None:
            return least_row_to(web, scene)
    return None
