"""Forests, arrangements and odd objects that several tests use."""

import copy
import random
from itertools import combinations, permutations

A = (5, [(0, 1), (1, 2), (1, 3)])
P = (4, [(0, 1), (1, 2), (2, 3)])
LETTERS = "abcdefghijklmnopqrstuvwxyz"
BIG = int("123456789012" * 5)
BAD_ITEMS = (
    "", "a" * 9, "abcdefghi", "a" * 4000, "A", "aB", "Ab", "a1", "1", "0", "a b", " a", "a ", " ",
    "a\n", "\n", "a-b", "a_b", "?", ".", "`", "{", "\u00e4", "\u00df", "a\u00e9", "\u03b1",
    "\u0430", "\uff41", "\u00aa", None, True, False, 0, 1, -1, BIG, (), [], ["b"], ("b",), ("b", 1))


def path_forest(n):
    return (n, [(p, p + 1) for p in range(n - 1)])


def star_forest(n, middle=0):
    return (n, sorted((min(p, middle), max(p, middle)) for p in range(n) if p != middle))


def mixed_forest(n, seed, keep=1.0):
    """A tree of n positions with shuffled numbers; some edges left out if keep is below 1."""
    chance = random.Random(seed)
    names = list(range(n))
    chance.shuffle(names)
    edges = []
    for k in range(1, n):
        ends = sorted((names[k], names[chance.randrange(k)]))
        if chance.random() < keep:
            edges.append(tuple(ends))
    return (n, sorted(edges))


def sized_forests():
    """Paths, stars, mixed trees, several trees and no edges, from 1 to 40 positions."""
    found = []
    for n in range(1, 41):
        found.append((n, []))
        found.append(path_forest(n))
        found.append(star_forest(n))
        found.append(star_forest(n, n - 1))
        found.append(star_forest(n, n // 2))
        found.append(mixed_forest(n, n))
        found.append(mixed_forest(n, n + 100, 0.8))
        found.append(mixed_forest(n, n + 200, 0.4))
    return found


def strips_to_nothing(edges):
    """Whether taking off end positions again and again takes off all edges."""
    left = list(edges)
    while left:
        ends = [p for edge in left for p in edge]
        kept = [e for e in left if ends.count(e[0]) > 1 and ends.count(e[1]) > 1]
        if len(kept) == len(left):
            return False
        left = kept
    return True


def edge_lists(n):
    """Every ascending list of edges of n positions, with or without a cycle."""
    pairs = list(combinations(range(n), 2))
    for many in range(len(pairs) + 1):
        for chosen in combinations(pairs, many):
            yield list(chosen)


def all_forests(n):
    return [(n, edges) for edges in edge_lists(n) if strips_to_nothing(edges)]


def all_orders(forest):
    return [list(order) for order in permutations(forest[1])]


def shuffled(things, seed):
    mixed = list(things)
    random.Random(seed).shuffle(mixed)
    return mixed


def items_for(n):
    """n distinct items of one to eight letters, not in ascending order."""
    return [LETTERS[7 * p % 26] * ((p + p // 26) % 8 + 1) for p in range(n)]


def nested(kind, depth):
    thing = kind()
    for _ in range(depth - 1):
        thing = kind([thing])
    return thing


def odd_objects():
    """Objects that are no forest, no arrangement and no order of a forest with edges."""
    return [
        None, True, False, 0, 1, -1, 5, BIG, -BIG, "", "a", "abcde", "(1, [])", "a" * 4000,
        (), [], [None], (None,), [[]], [()], ([],), ((),), (1,), (1, [], []), [1, []], ([], 1),
        (None, None), (True, []), (1, None), (1, ""), ("a", []), (BIG, []), (1, [BIG]),
        [True], [0], [0, 1], [BIG] * 400, [None] * 400, [()] * 399, (0,) * 400,
        [(0, 1)] * 2, [(0, BIG)], [(None, None)], [("a", "b")], [("a",)], [["a"]], ["A"], [""],
        ["a", "a"], ["a", None], ["a", 1], ["a", True], ["a", ["b"]], ("a",), ("a", "b"),
        ["a"] * 400, [["a", "b"]], nested(list, 20), nested(tuple, 20),
        [nested(list, 19), nested(tuple, 19)], (5, nested(list, 19)), (nested(tuple, 19), []),
        (5, nested(tuple, 19)), (5, [nested(tuple, 18)]), (5, [(0, 1), nested(list, 18)]),
    ]


def bad_arrangements(items):
    """Objects that are no arrangement of as many items as the given ones."""
    found = [tuple(items), items[:-1], items + ["zz"], items + items[:1], items[:-1] + items[:1],
             [items], (items,), "".join(items), " ".join(items), [items, items]]
    found += [items[:-1] + [thing] for thing in BAD_ITEMS]
    found += [[thing] + items[1:] for thing in BAD_ITEMS]
    return [thing for thing in found + odd_objects() if not spelled_out(thing, len(items))]


def spelled_out(thing, n):
    """Whether a thing is an arrangement, said in another way than the program says it."""
    if type(thing) is not list or [type(entry) for entry in thing] != [str] * n:
        return False
    if any(thing.count(entry) != 1 for entry in thing):
        return False
    return all(0 < len(entry) < 9 and not entry.strip(LETTERS) for entry in thing)


def bad_orders(edges):
    """Objects that are no order of these edges, at least two."""
    p, q = edges[0]
    found = [tuple(edges), edges[1:], edges[:-1], edges + edges[:1], edges[:1] + edges[:-1],
             edges[1:] + edges[1:2], edges + edges, [edges], (edges,), edges + [None],
             [None] + edges[1:], edges + [[]], str(edges)]
    for thing in ((q, p), [p, q], (p, p), (q, q), (p, q, q), (p,), (), (p, q + 40), (p, BIG),
                  (-1, q), (str(p), str(q)), (p, None), (p, [q]), ((p, q),), f"{p}-{q}", p, "ab"):
        found += [[thing] + edges[1:], edges[1:] + [thing]]
    return found + [thing for thing in odd_objects() if thing != edges]


def lists_inside(thing):
    """The list objects in a value, itself included."""
    found = [thing] if isinstance(thing, list) else []
    if isinstance(thing, (list, tuple)):
        for part in thing:
            found.extend(lists_inside(part))
    return found


def error_of(function, *arguments, **named):
    """The class of the error that a call raises, or None; the arguments must stay as they were."""
    kept = copy.deepcopy((arguments, named))
    try:
        function(*arguments, **named)
        raised = None
    except Exception as error:
        raised = type(error)
    if repr((arguments, named)) != repr(kept):
        raise AssertionError("an argument was modified")
    return raised
