"""What the document's definitions say, worked out plainly and without the program."""

import random
from fractions import Fraction
from itertools import permutations
from math import factorial


def inverse(to):
    return [to.index(p) for p in range(len(to))]


def turns_by(forest, order):
    return [[p + q - at for p, q in order if at in (p, q)] for at in range(forest[0])]


def after_by(items, order):
    place = dict(enumerate(items))
    for p, q in order:
        place.update({p: place[q], q: place[p]})
    return [place[p] for p in range(len(items))]


def read_from(ring, start):
    at = ring.index(start)
    return ring[at:] + ring[:at]


def cross(ring, e, f):
    if len(set(e + f)) < 4:
        return False
    around = [p in e for p in ring if p in e + f]
    return around in ([True, False, True, False], [False, True, False, True])


def edge_of(p, q):
    return tuple(sorted((p, q)))


def homes(forest):
    """For every position the set of the positions of its tree."""
    home = [{p} for p in range(forest[0])]
    for p, q in forest[1]:
        joined = home[p] | home[q]
        for member in joined:
            home[member] = joined
    return home


def moves_by(before, after):
    return [after.index(item) for item in before]


def rings_by(to):
    """Every ring of the moves, each from its least position, in ascending order."""
    found = []
    for p in range(len(to)):
        if not any(p in ring for ring in found):
            ring = [p]
            while to[ring[-1]] != p:
                ring.append(to[ring[-1]])
            found.append(ring)
    return found


def arranged(before, found):
    """The arrangement that these rings lead to; what is in none of them stays."""
    after = list(before)
    for ring in found:
        for p, q in zip(ring, ring[1:] + ring[:1]):
            after[q] = before[p]
    return after


def certificates(forest, before, after):
    """All true certificates: the positions, the rings and the pairs of edges, each ascending."""
    home = homes(forest)
    to = moves_by(before, after)
    moved = [("moved", p) for p in range(forest[0]) if to[p] not in home[p]]
    found = rings_by(to)
    short = [("ring", ring) for ring in found if set(ring) < home[ring[0]]]
    whole = [ring for ring in found if set(ring) == home[ring[0]]]
    crossing = [("cross", e, f) for ring in whole for e in forest[1] for f in forest[1]
                if e < f and set(e + f) <= set(ring) and cross(ring, e, f)]
    return moved, short, sorted(crossing)


def first_certificate(forest, before, after):
    """What reason must return, or None if R1 lets the arrangement result."""
    for found in certificates(forest, before, after):
        if found:
            return found[0]
    return None


def shown(forest, before, after):
    """Everything that shows must accept."""
    moved, short, crossing = certificates(forest, before, after)
    turned = [("ring", read_from(ring, p)) for _, ring in short for p in ring]
    return moved + turned + crossing + [("cross", f, e) for _, e, f in crossing]


def results(forest, before):
    """Every arrangement that some order produces, as a tuple, with the orders that produce it."""
    found = {}
    for order in permutations(forest[1]):
        found.setdefault(tuple(after_by(before, order)), []).append(list(order))
    return found


def leads(turns, way):
    """Whether turns lead an item along a path of at least two positions, as R4 says."""
    if turns[way[0]][0] != way[1] or turns[way[-1]][-1] != way[-2]:
        return False
    return all(turns[here].index(there) == turns[here].index(source) + 1
               for source, here, there in zip(way, way[1:], way[2:]))


def pairs_by(turns):
    """The pairs of edges that directly follow one another in a turn, ascending."""
    found = []
    for p, turn in enumerate(turns):
        for k in range(1, len(turn)):
            found.append((edge_of(p, turn[k - 1]), edge_of(p, turn[k])))
    return sorted(found)


def needed(turns, edge):
    """The edges that come before an edge in every order with these turns."""
    found = set()
    for p, q in (edge, edge[::-1]):
        at = turns[p].index(q)
        if at > 0:
            previous = edge_of(p, turns[p][at - 1])
            found |= {previous} | needed(turns, previous)
    return found


def some_order(turns, seed):
    """An order with these turns, each of them possible."""
    chance = random.Random(seed)
    rest = [list(turn) for turn in turns]
    order = []
    while any(rest):
        ready = [(p, row[0]) for p, row in enumerate(rest)
                 if row and p < row[0] and rest[row[0]][0] == p]
        p, q = chance.choice(ready)
        del rest[p][0], rest[q][0]
        order.append((p, q))
    return order


def orders_by_hooks(edges, turns):
    """How many orders have these turns.

    If every edge had to come after its parent in a rooted tree, the hook formula would count the
    orders. A pair that points the other way is taken as no pair, less the pair turned around.
    """
    pairs = pairs_by(turns)
    left = list(edges)
    share = Fraction(1)
    while left:
        sizes, inside = hook_shares(pairs, left[0], None)
        share *= sum(sizes.values())
        left = [edge for edge in left if edge not in inside]
    return share * factorial(len(edges))


def hook_shares(pairs, edge, source):
    """The signed shares of orders by the size of the part that hangs on an edge; and its edges."""
    sizes = {1: Fraction(1)}
    inside = [edge]
    for e, f in pairs:
        if edge not in (e, f) or source in (e, f):
            continue
        child = f if e == edge else e
        below, more = hook_shares(pairs, child, edge)
        inside = inside + more
        sign = 1 if e == edge else -1
        joined = {}
        for size, worth in sizes.items():
            if e == child:
                joined[size] = joined.get(size, 0) + worth * sum(below.values())
            for size_below, worth_below in below.items():
                both = size + size_below
                joined[both] = joined.get(both, 0) + sign * worth * worth_below
        sizes = joined
    return {size: worth / size for size, worth in sizes.items()}, inside
