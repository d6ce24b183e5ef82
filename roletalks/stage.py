"""Casts that perform with boxes of letters (points 14 to 17, and 22 as far as it speaks of these)."""

from roletalks.basics import check_number, coming, grown, has_items, is_number
from roletalks.errors import BadCast, BadRow, NotMade, TooMany
from roletalks.parts import is_event, is_part
from roletalks.scripts import LEAST_ACTORS, MOST_ACTORS

MOST_SIZE = 3
MOST_DOINGS = 40
MOST_COMING = 3000


def check_cast(cast):
    """Raise BadCast unless a value is a cast."""
    if not has_items(cast, LEAST_ACTORS, MOST_ACTORS):
        raise BadCast(None)
    for index, part in enumerate(cast):
        if not is_part_of(part, index, len(cast)):
            raise BadCast(index)


def is_part_of(value, actor, actors):
    """Tell whether a value is a part that can be an actor's in a cast of so many."""
    return is_part(value) and all([is_other(step[1], actor, actors) for _, steps in value for step in steps])


def is_other(value, actor, actors):
    """Tell whether a value is one of so many actors, but not a given one."""
    return is_number(value, 0, actors - 1) and value != actor


def check_row(row, actors):
    """Raise BadRow unless a value is a row of doings of so many actors."""
    if not has_items(row, 0, MOST_DOINGS):
        raise BadRow(None)
    for index, doing in enumerate(row):
        if not is_doing(doing, actors):
            raise BadRow(index)


def is_doing(value, actors):
    """Tell whether a value is a doing of one of so many actors with another one."""
    if not has_items(value, 4, 4):
        return False
    actor, _, other, _ = value
    return is_number(actor, 0, actors - 1) and is_event(value[1:]) and is_other(other, actor, actors)


def check_stage(cast, size):
    """Raise BadCast or BadNumber unless the values are a cast and a size of its boxes."""
    check_cast(cast)
    check_number(size, 1, MOST_SIZE)


def first_position(cast):
    """The position before all doings."""
    return (0,) * len(cast), ()


def words_in(letters, speaker, hearer):
    """The words in one box, the first one first."""
    for from_whom, to_whom, words in letters:
        if (from_whom, to_whom) == (speaker, hearer):
            return words
    return ()


def with_words(letters, speaker, hearer, words):
    """The letters if there are these words in one box."""
    boxes = [box for box in letters if box[:2] != (speaker, hearer)]
    if words:
        boxes.append((speaker, hearer, words))
    return tuple(sorted(boxes))


def letters_behind(letters, size, doing):
    """The letters behind a doing, None if the boxes do not allow it."""
    actor, kind, other, word = doing
    if kind == "say":
        words = words_in(letters, actor, other)
        return with_words(letters, actor, other, words + (word,)) if len(words) < size else None
    words = words_in(letters, other, actor)
    return with_words(letters, other, actor, words[1:]) if words[:1] == (word,) else None


def steps_at(cast, size, position):
    """The doings that can be done at a position, ascending, each with the position behind it."""
    states, letters = position
    found = []
    for actor, part in enumerate(cast):
        for kind, other, word, there in part[states[actor]][1]:
            doing = (actor, kind, other, word)
            letters_then = letters_behind(letters, size, doing)
            if letters_then is not None:
                states_then = states[:actor] + (there,) + states[actor + 1:]
                found.append((doing, (states_then, letters_then)))
    return found


def position_behind(cast, size, row):
    """The position behind a row; NotMade if the row cannot be done."""
    position = first_position(cast)
    for doing in row:
        steps = dict(steps_at(cast, size, position))
        if doing not in steps:
            raise NotMade("this row cannot be done")
        position = steps[doing]
    return position


def play(cast, size, row):
    """The position behind a row."""
    check_stage(cast, size)
    check_row(row, len(cast))
    return position_behind(cast, size, row)


def doings(cast, size, row):
    """The ascending tuple of what can be done behind a row."""
    check_stage(cast, size)
    check_row(row, len(cast))
    return tuple([doing for doing, _ in steps_at(cast, size, position_behind(cast, size, row))])


def position_web(cast, size):
    """The positions that come, in the order of their coming, and their web; TooMany for too many of them."""
    check_stage(cast, size)
    return grown(first_position(cast), lambda position: steps_at(cast, size, position), MOST_COMING)


def count_positions(cast, size):
    """The number of the positions that come."""
    positions, _ = position_web(cast, size)
    return len(positions)


def layers(cast, size):
    """The tuple of how many positions need 0, 1, .. doings at least."""
    _, web = position_web(cast, size)
    needs = {0: 0}
    # Places are in the order of their coming: what is found first needs least.
    for place, steps in enumerate(web):
        for _, there in steps:
            needs.setdefault(there, needs[place] + 1)
    counts = [0] * (needs[len(web) - 1] + 1)
    for place in range(len(web)):
        counts[needs[place]] += 1
    return tuple(counts)


def ends(cast, size):
    """The ascending tuple of the positions in which nothing can be done."""
    positions, web = position_web(cast, size)
    return tuple(sorted([position for position, steps in zip(positions, web) if not steps]))


def is_over(cast, position):
    """Tell whether a performance is over at a position: all may rest, and no letter is left."""
    states, letters = position
    return not letters and all([part[state][0] for part, state in zip(cast, states)])


def can_be_over(cast, size):
    """Tell whether from each position that comes one can come in which the performance is over."""
    positions, web = position_web(cast, size)
    # The web is walked backwards, from one more place that leads to all in which it is over.
    back = [[] for _ in range(len(web) + 1)]
    for place, steps in enumerate(web):
        for doing, there in steps:
            back[there].append((doing, place))
        if is_over(cast, positions[place]):
            back[len(web)].append((None, place))
    return len(coming(back, len(web))) == len(back)


def most_letters(cast, size):
    """The most letters that are ever in one box."""
    positions, _ = position_web(cast, size)
    return max([len(words) for _, letters in positions for _, _, words in letters], default=0)


class Stage:
    """A cast with its boxes, which keeps the steps of each position, as many rows lead to one position."""

    def __init__(self, cast, size):
        self.cast = cast
        self.size = size
        self.known = {}

    def kept_steps(self, position):
        """The doings that can be done at a position, ascending, each with the position behind it."""
        if position not in self.known:
            self.known[position] = steps_at(self.cast, self.size, position)
        return self.known[position]


def rows(cast, size, many):
    """The ascending list of the rows of many doings that can be done."""
    check_stage(cast, size)
    check_number(many, 0, MOST_DOINGS)
    stage = Stage(cast, size)
    found = [((), first_position(cast))]
    for _ in range(many):
        found = [(row + (doing,), there) for row, position in found for doing, there in stage.kept_steps(position)]
        if len(found) > MOST_COMING:
            raise TooMany(MOST_COMING)
    return [row for row, _ in found]


def count_rows(cast, size, many):
    """The number of the rows of many doings that can be done."""
    check_stage(cast, size)
    check_number(many, 0, MOST_DOINGS)
    stage = Stage(cast, size)
    counts = {first_position(cast): 1}
    for _ in range(many):
        counts = counts_behind(stage, counts)
    return sum(counts.values())


def counts_behind(stage, counts):
    """How many rows lead to each position, one doing later than they are counted."""
    later = {}
    for position, count in counts.items():
        for _, there in stage.kept_steps(position):
            later[there] = later.get(there, 0) + count
    return later
