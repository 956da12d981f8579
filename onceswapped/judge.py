"""Which arrangements can result, and why the others cannot."""

from itertools import combinations

from onceswapped.arrange import moves, ring_from, rings
from onceswapped.errors import NotReached
from onceswapped.forests import is_edge_of, is_position, neighbour_lists, tree_lists


def crosses(ring, e, f):
    """Return whether a ring contains four different positions of two edges, and they alternate."""
    if e[0] in f or e[1] in f or not all([position in ring for position in e + f]):
        return False
    low, high = sorted([ring.index(position) for position in e])
    one, other = [low < ring.index(position) < high for position in f]
    return one != other


def can_be(forest, before, after):
    """Return whether after is an outcome."""
    return reason(forest, before, after) is None


def reason(forest, before, after):
    """Return None if after is an outcome, else the first certificate that it is none."""
    to = moves(forest, before, after)
    home = tree_lists(forest)
    for position, end in enumerate(to):
        if end not in home[position]:
            return ("moved", position)
    for ring in rings(forest, before, after):
        if len(ring) < len(home[ring[0]]):
            return ("ring", ring)
    for e, f in combinations(forest[1], 2):
        if crosses(ring_from(to, e[0]), e, f):
            return ("cross", e, f)
    return None


def _shows_moved(forest, to, position):
    """Return whether the item of a position, any object, moves to another tree."""
    if not is_position(forest[0], position):
        return False
    return to[position] not in tree_lists(forest)[position]


def _shows_ring(forest, to, ring):
    """Return whether a ring, any object, is one of the moves and a part of one tree, not all."""
    if not isinstance(ring, list) or len(ring) == 0:
        return False
    if not all([is_position(forest[0], position) for position in ring]):
        return False
    home = tree_lists(forest)[ring[0]]
    if ring != ring_from(to, ring[0]) or not all([position in home for position in ring]):
        return False
    return len(ring) < len(home)


def _shows_cross(forest, to, e, f):
    """Return whether two edges, any objects, cross on the one ring of their tree."""
    if not is_edge_of(forest, e) or not is_edge_of(forest, f):
        return False
    ring = ring_from(to, e[0])
    return sorted(ring) == tree_lists(forest)[e[0]] and crosses(ring, e, f)


def shows(forest, before, after, thing):
    """Return whether a thing, any object, is a true certificate that after is no outcome."""
    to = moves(forest, before, after)
    if not isinstance(thing, tuple) or not 2 <= len(thing) <= 3:
        return False
    if len(thing) == 3:
        return thing[0] == "cross" and _shows_cross(forest, to, thing[1], thing[2])
    if thing[0] == "moved":
        return _shows_moved(forest, to, thing[1])
    return thing[0] == "ring" and _shows_ring(forest, to, thing[1])


def turns_of(forest, before, after):
    """Return the turns of an outcome; raise NotReached if after is none."""
    why = reason(forest, before, after)
    if why is not None:
        raise NotReached(why)
    to = moves(forest, before, after)
    # Along the ring from a position its neighbours come in the order of its turn.
    return [[position for position in ring_from(to, start) if position in nearby]
            for start, nearby in enumerate(neighbour_lists(forest))]
