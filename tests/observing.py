"""Observations of many kinds."""

import random
from itertools import combinations, permutations

from tests.oracle import after_by
from tests.samples import items_for, shuffled

ODD_ENTRIES = ("", "no", "aa", "zzzzzzzz", "A", "a ", " ", "?", "None", 0, 1, -1, True, False, [], ["a"], (),
               ("a",), [None], (None,))


def masked(items, kept):
    """The observation of some positions only."""
    return [item if p in kept else None for p, item in enumerate(items)]


def all_observations(before):
    """Every observation of a few items."""
    n = len(before)
    for many in range(n + 1):
        for places in combinations(range(n), many):
            for chosen in permutations(before, many):
                seen = [None] * n
                for place, item in zip(places, chosen):
                    seen[place] = item
                yield seen


def exchanged_entries(seen, p, q):
    changed = list(seen)
    changed[p], changed[q] = seen[q], seen[p]
    return changed


def some_observations(forest, seed):
    """Items, and observations of outcomes, of nearly outcomes, of the start and of anything else."""
    chance = random.Random(seed)
    n = forest[0]
    before = items_for(n)
    after = after_by(before, shuffled(forest[1], seed))
    found = [[None] * n, list(after), list(before), shuffled(before, seed)]
    for many in sorted({1, 2, 3, n // 4 + 1, n // 2 + 1, n}):
        kept = chance.sample(range(n), min(many, n))
        fitting = masked(after, kept)
        found += [fitting, masked(before, kept[:2]), masked(shuffled(before, seed), kept)]
        found.append(exchanged_entries(fitting, chance.randrange(n), chance.randrange(n)))
        found.append(exchanged_entries(fitting, kept[0], kept[-1]))
    return before, found


def bad_observations(before):
    """Objects that are no observation of these items."""
    n = len(before)
    nothing = [None] * n
    found = [tuple(before), tuple(nothing), before[:-1], nothing[1:], before + [None], nothing + [None],
             nothing + before[:1], [nothing], (nothing,), " ".join(before), "".join(before), None, n, True,
             {}, nothing * 2 + [None], [before, before], "?", before[0]]
    if n > 1:
        found += [[before[0]] + before[:1] + nothing[2:], before[:-1] + before[:1], nothing[:-2] + [before[0]] * 2]
    for entry in ODD_ENTRIES + (before, nothing, "x" * 4000):
        if entry not in before:
            found += [[entry] + nothing[1:], nothing[1:] + [entry], before[:-1] + [entry]]
    return found
