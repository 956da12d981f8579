"""Turns: in which order each position was swapped with its neighbours."""

from onceswapped.arrange import check_arrangement, check_order, swapped
from onceswapped.errors import NoTurns
from onceswapped.forests import check_forest, edge_between, is_position, neighbour_lists


def _is_turn(n, nearby, thing):
    """Return whether a thing, any object, is a list of all neighbours of one position."""
    # Python takes True for equal to 1, so comparing alone would let it pass.
    if not isinstance(thing, list) or not all([is_position(n, entry) for entry in thing]):
        return False
    return sorted(thing) == nearby


def is_turns(forest, thing):
    """Return whether a thing, any object, is a list of one turn for every position."""
    check_forest(forest)
    n = forest[0]
    if not isinstance(thing, list) or len(thing) != n:
        return False
    return all([_is_turn(n, nearby, turn) for nearby, turn in zip(neighbour_lists(forest), thing)])


def check_turns(forest, turns):
    """Raise NoTurns if the argument, any object, is no list of turns of a valid forest."""
    if not is_turns(forest, turns):
        raise NoTurns("these are no turns of the positions")


def turns_of_order(forest, order):
    """Return the turns of an order."""
    check_forest(forest)
    check_order(forest, order)
    turns = [[] for position in range(forest[0])]
    for p, q in order:
        turns[p].append(q)
        turns[q].append(p)
    return turns


def _least_order(edges, turns):
    """Return the least order of all edges of a forest that has these turns."""
    waiting = list(edges)
    rest = [list(turn) for turn in turns]
    order = []
    while waiting:
        # The edges have no cycle, so some edge is always the next one at both of its ends.
        ready = [(p, q) for p, q in waiting if rest[p][0] == q and rest[q][0] == p]
        p, q = min(ready)
        rest[p].pop(0)
        rest[q].pop(0)
        waiting.remove((p, q))
        order.append((p, q))
    return order


def after_turns(forest, items, turns):
    """Return the outcome with these turns."""
    check_forest(forest)
    check_arrangement(forest[0], items)
    check_turns(forest, turns)
    return swapped(items, _least_order(forest[1], turns))


def order_of_turns(forest, turns):
    """Return the least order, compared as lists, that has these turns."""
    check_forest(forest)
    check_turns(forest, turns)
    return _least_order(forest[1], turns)


def following_pairs(turns):
    """Return the ascending list of the pairs of edges that directly follow one another in a turn."""
    pairs = []
    for position, turn in enumerate(turns):
        for one, other in zip(turn, turn[1:]):
            pairs.append((edge_between(position, one), edge_between(position, other)))
    return sorted(pairs)
