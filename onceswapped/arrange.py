"""Arrangements of items, orders of swaps, and where the items move."""

from onceswapped.errors import NoArrangement, NoOrder
from onceswapped.forests import check_forest, is_edge

MOST_LETTERS = 8


def is_item(thing):
    """Return whether a thing, any object, is an item."""
    if not isinstance(thing, str) or not 1 <= len(thing) <= MOST_LETTERS:
        return False
    return all(["a" <= letter <= "z" for letter in thing])


def is_arrangement(n, thing):
    """Return whether a thing, any object, is an arrangement of n items."""
    if not isinstance(thing, list) or len(thing) != n:
        return False
    if not all([is_item(entry) for entry in thing]):
        return False
    return len(set(thing)) == n


def is_order(forest, thing):
    """Return whether a thing, any object, contains every edge of a valid forest once."""
    n, edges = forest
    # Python takes (0, True) for equal to (0, 1), so comparing alone would let it pass.
    if not isinstance(thing, list) or not all([is_edge(n, entry) for entry in thing]):
        return False
    return sorted(thing) == edges


def check_arrangement(n, items):
    """Raise NoArrangement if the argument, any object, is no arrangement of n items."""
    if not is_arrangement(n, items):
        raise NoArrangement("this is no arrangement")


def check_change(forest, before, after):
    """Raise the first error of these three arguments, any objects.

    After must be an arrangement of the items of before.
    """
    check_forest(forest)
    check_arrangement(forest[0], before)
    check_arrangement(forest[0], after)
    if sorted(after) != sorted(before):
        raise NoArrangement("these are not the items of the arrangement before")


def check_order(forest, order):
    """Raise NoOrder if the argument, any object, is no order of a valid forest."""
    if not is_order(forest, order):
        raise NoOrder("this is no order of the edges")


def swapped(items, edges):
    """Return the arrangement after the swaps at some edges, one after the other."""
    result = list(items)
    for p, q in edges:
        result[p], result[q] = result[q], result[p]
    return result


def apply_order(forest, items, order):
    """Return the arrangement after the swaps of an order."""
    check_forest(forest)
    check_arrangement(forest[0], items)
    check_order(forest, order)
    return swapped(items, order)


def moves(forest, before, after):
    """Return for every position where the item that started there ends."""
    check_change(forest, before, after)
    return [after.index(item) for item in before]


def ring_from(to, start):
    """Return the ring of the moves that contains start, read from there."""
    ring = [start]
    while to[ring[-1]] != start:
        ring.append(to[ring[-1]])
    return ring


def rings(forest, before, after):
    """Return all rings of the moves, each from its least position, in ascending order."""
    to = moves(forest, before, after)
    ring_at = [ring_from(to, position) for position in range(len(to))]
    return [ring for ring in ring_at if ring[0] == min(ring)]
