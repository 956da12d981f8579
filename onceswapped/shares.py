"""How often an item ends at a position, among all outcomes and among all orders."""

from math import factorial, gcd

from onceswapped.forests import check_ends, check_forest, neighbour_lists, way_between


def lowest(top, bottom):
    """Return a fraction in lowest terms; the bottom is above zero."""
    shared = gcd(top, bottom)
    return (top // shared, bottom // shared)


def _share(nearby, start, end):
    """Return the share of two positions that exist."""
    way = way_between(nearby, start, end)
    if way is None:
        return (0, 1)
    if start == end:
        return (0, 1) if nearby[start] else (1, 1)
    # At each position of the way, one certain neighbour must be in the one right place of its turn.
    bottom = 1
    for position in way:
        bottom *= len(nearby[position])
    return (1, bottom)


def share(forest, start, end):
    """Return the fraction of all outcomes in which the item from start ends at end."""
    check_ends(forest, start, end)
    return _share(neighbour_lists(forest), start, end)


def _times(one, other):
    """Return the product of two polynomials, lists of their coefficients."""
    result = [0 for _ in range(len(one) + len(other) - 1)]
    for i, a in enumerate(one):
        for j, b in enumerate(other):
            result[i + j] += a * b
    return result


def _signed_choices(many):
    """Return for j from 0 to many how many ordered choices of j there are, with the sign of j."""
    signed = [1]
    for left in range(many, 0, -1):
        signed.append(-left * signed[-1])
    return signed


def order_share(forest, start, end):
    """Return the fraction of all orders in which the item from start ends at end."""
    check_ends(forest, start, end)
    nearby = neighbour_lists(forest)
    way = way_between(nearby, start, end)
    if way is None:
        return (0, 1)
    edges = len(way) - 1
    aside = [len(nearby[position]) - 2 for position in way]
    aside[0] += 1
    aside[-1] += 1
    # The edges of the way must come in its order, and no edge aside of a position may come between
    # its two on the way (before the one at the start, after the one at the end). So count the orders
    # in which s chosen edges do come just there, with the sign of s: their own orders at each
    # position are free, and all these edges together have (edges + s)! orders.
    signed = [1]
    for many in aside:
        signed = _times(signed, _signed_choices(many))
    bottom = factorial(edges + sum(aside))
    top = sum([ways * (bottom // factorial(edges + s)) for s, ways in enumerate(signed)])
    return lowest(top, bottom)


def share_table(forest):
    """Return the list of n lists in which entry [v][u] is the share from v to u."""
    check_forest(forest)
    nearby = neighbour_lists(forest)
    positions = list(range(forest[0]))
    return [[_share(nearby, start, end) for end in positions] for start in positions]
