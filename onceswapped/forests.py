"""Forests of position pairs, and what is read off them."""

from onceswapped.errors import NoEdge, NoForest, NoPosition

MOST_POSITIONS = 40


def is_integer(thing):
    """Return whether a thing is an integer; a boolean is none."""
    return isinstance(thing, int) and not isinstance(thing, bool)


def is_position(n, thing):
    """Return whether a thing is one of the positions 0 to n - 1."""
    return is_integer(thing) and 0 <= thing < n


def is_edge(n, thing):
    """Return whether a thing is a pair of positions below n, the lesser one first."""
    if not isinstance(thing, tuple) or len(thing) != 2:
        return False
    p, q = thing
    return is_position(n, p) and is_position(n, q) and p < q


def is_forest(thing):
    """Return whether a thing, any object, is a forest."""
    if not isinstance(thing, tuple) or len(thing) != 2:
        return False
    n, edges = thing
    if not is_integer(n) or not 1 <= n <= MOST_POSITIONS:
        return False
    if not isinstance(edges, list) or not all([is_edge(n, edge) for edge in edges]):
        return False
    return _is_ascending(edges) and not _has_cycle(n, edges)


def _is_ascending(edges):
    return all([edge < following for edge, following in zip(edges, edges[1:])])


def _has_cycle(n, edges):
    """Return whether some edge joins two positions that earlier edges connect already."""
    tree_of = list(range(n))
    for p, q in edges:
        kept, joined = tree_of[p], tree_of[q]
        if kept == joined:
            return True
        tree_of = [kept if tree == joined else tree for tree in tree_of]
    return False


def check_forest(forest):
    """Raise NoForest if the argument, any object, is no forest."""
    if not is_forest(forest):
        raise NoForest("this is no forest")


def check_position(forest, position):
    """Raise NoPosition if the argument is no position of a valid forest."""
    if not is_position(forest[0], position):
        raise NoPosition("the forest has no such position")


def check_ends(forest, start, end):
    """Raise the first error of a forest, any object, and two of its positions."""
    check_forest(forest)
    check_position(forest, start)
    check_position(forest, end)


def is_edge_of(forest, thing):
    """Return whether a thing, any object, is an edge of a valid forest."""
    n, edges = forest
    # Python takes (0, True) for equal to (0, 1), so looking it up alone would let it pass.
    return is_edge(n, thing) and thing in edges


def check_edge(forest, edge):
    """Raise NoEdge if the argument is no edge of a valid forest."""
    if not is_edge_of(forest, edge):
        raise NoEdge("the forest has no such edge")


def edge_between(p, q):
    """Return the edge of two neighbours, given in either order."""
    return (min(p, q), max(p, q))


def neighbour_lists(forest):
    """Return for every position of a valid forest the ascending list of its neighbours."""
    n, edges = forest
    lists = [[] for position in range(n)]
    # The edges ascend, so each position meets its lesser neighbours first, all in ascending order.
    for p, q in edges:
        lists[p].append(q)
        lists[q].append(p)
    return lists


def steps_towards(nearby, goal):
    """Return for every position of the goal's tree the next one on the path to the goal.

    The keys are exactly the positions of the tree; the goal itself has None.
    """
    steps = {goal: None}
    waiting = [goal]
    while waiting:
        here = waiting.pop()
        for there in nearby[here]:
            if there not in steps:
                steps[there] = here
                waiting.append(there)
    return steps


def way_between(nearby, start, end):
    """Return the path between two positions, or None between two trees."""
    steps = steps_towards(nearby, end)
    if start not in steps:
        return None
    way = [start]
    while way[-1] != end:
        way.append(steps[way[-1]])
    return way


def tree_lists(forest):
    """Return for every position of a valid forest the ascending list of its tree's positions."""
    nearby = neighbour_lists(forest)
    return [sorted(steps_towards(nearby, position)) for position in range(forest[0])]


def neighbours(forest, position):
    """Return the ascending list of the neighbours of a position."""
    check_forest(forest)
    check_position(forest, position)
    return neighbour_lists(forest)[position]


def degrees(forest):
    """Return for every position how many neighbours it has."""
    check_forest(forest)
    return [len(row) for row in neighbour_lists(forest)]


def trees(forest):
    """Return the trees, each as an ascending list of positions, in ascending order."""
    check_forest(forest)
    return [tree for position, tree in enumerate(tree_lists(forest)) if tree[0] == position]


def path(forest, start, end):
    """Return the positions of the path from start to end, or None between two trees."""
    check_ends(forest, start, end)
    return way_between(neighbour_lists(forest), start, end)
