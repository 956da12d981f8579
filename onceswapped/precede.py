"""Which swaps must have come before which, and the orders that produce an outcome."""

from math import comb

from onceswapped.arrange import check_change, is_order, swapped
from onceswapped.forests import check_edge, trees
from onceswapped.judge import turns_of
from onceswapped.turns import following_pairs, order_of_turns


def must_precede(forest, before, after):
    """Return the pairs of edges, the earlier one first, that directly follow in some turn."""
    return following_pairs(turns_of(forest, before, after))


def precedes(forest, before, after, one, other):
    """Return whether edge one comes before edge other in every order that produces after."""
    check_change(forest, before, after)
    check_edge(forest, one)
    check_edge(forest, other)
    pairs = must_precede(forest, before, after)
    # The edges have no cycle, so neither have the pairs: no edge is reached twice.
    later = []
    waiting = [one]
    while waiting:
        here = waiting.pop()
        following = [f for e, f in pairs if e == here]
        later.extend(following)
        waiting.extend(following)
    return other in later


def first_edges(forest, before, after):
    """Return the ascending list of edges that are first in some order that produces after."""
    later = [f for _, f in must_precede(forest, before, after)]
    return [edge for edge in forest[1] if edge not in later]


def last_edges(forest, before, after):
    """Return the ascending list of edges that are last in some order that produces after."""
    earlier = [e for e, _ in must_precede(forest, before, after)]
    return [edge for edge in forest[1] if edge not in earlier]


def least_order(forest, before, after):
    """Return the least order, compared as lists, that produces after."""
    return order_of_turns(forest, turns_of(forest, before, after))


def _places_before(places, others):
    """Return the places of an edge after its orders are merged with those of other edges.

    places[k] tells in how many orders of its own edges the edge is at k; others[k] tells the
    same, in orders of the other edges, of the one that must come after it.
    """
    joined = [0 for _ in places + others]
    for at, ways in enumerate(places):
        behind = len(places) - 1 - at
        for early in range(len(others)):
            late = len(others) - early
            merges = comb(at + early, early) * comb(behind + late, late)
            joined[at + early] += ways * sum(others[early:]) * merges
    return joined


def _places_after(places, others):
    """Return the same if the one of the other edges must come before it."""
    return _places_before(places[::-1], others[::-1])[::-1]


def _places(pairs, edge, source):
    """Return in how many orders an edge is at each place, without the side that source is on.

    The pairs connect the edges of a tree without a cycle, so that the sides of an edge, one for
    each of its pairs, share no edge and no pair.
    """
    places = [1]
    for e, f in pairs:
        if e == edge and f != source:
            places = _places_before(places, _places(pairs, f, edge))
        if f == edge and e != source:
            places = _places_after(places, _places(pairs, e, edge))
    return places


def orders_counted(forest, before, after):
    """Return how many orders produce after."""
    pairs = must_precede(forest, before, after)
    counted = 1
    merged = 0
    for tree in trees(forest):
        edges = [edge for edge in forest[1] if edge[0] in tree]
        if len(edges) > 0:
            merged += len(edges)
            counted *= sum(_places(pairs, edges[0], None)) * comb(merged, len(edges))
    return counted


def order_fits(forest, before, after, thing):
    """Return whether a thing, any object, is an order that produces after."""
    check_change(forest, before, after)
    return is_order(forest, thing) and swapped(before, thing) == after


def exchanged(forest, before, after, edge):
    """Return the tuple of the two items, ascending, that were swapped at an edge."""
    check_change(forest, before, after)
    check_edge(forest, edge)
    order = least_order(forest, before, after)
    items = swapped(before, order[:order.index(edge)])
    one, other = sorted([items[position] for position in edge])
    return (one, other)


def left_out(forest, before, after, edge):
    """Return the arrangement that results if the swap at an edge is left out."""
    one, other = exchanged(forest, before, after, edge)
    instead = {one: other, other: one}
    return [instead.get(item, item) for item in after]
