"""The outcomes of a forest that fit an observation; all arguments are valid.

Of a forest only the neighbours of every position are needed. The pairs that the seen items put on
a position are about its circle: see onceswapped.circles.
"""

from math import factorial

from onceswapped.circles import (
    certain_followers, choices_for, conflict_in, end_from, least_turn, rows_in, turns_in)
from onceswapped.forests import neighbour_lists, way_between


def _circles(nearby):
    """Return for every position the list of itself and its neighbours."""
    return [[position] + row for position, row in enumerate(nearby)]


def seen_ways(nearby, before, seen):
    """Return the ascending list of (start, way) for the seen items, the way None to another tree."""
    ends = sorted([(before.index(item), end) for end, item in enumerate(seen) if item is not None])
    return [(start, way_between(nearby, start, end)) for start, end in ends]


def strays(ways):
    """Return the ascending list of the starts of the items that are seen in another tree."""
    return [start for start, way in ways if way is None]


def _steps(way):
    """Return for every position of a way what an item that takes it puts there: (position, x, y)."""
    return list(zip(way, way[:1] + way[:-1], way[1:] + way[-1:]))


def pair_lists(nearby, ways):
    """Return for every position the ascending list of the pairs that items put there on their ways."""
    pairs = [[] for _ in nearby]
    for start, way in ways:
        if way is not None and nearby[start]:
            for position, x, y in _steps(way):
                pairs[position].append((x, y))
    return [sorted(set(row)) for row in pairs]


def first_conflict(nearby, ways):
    """Return None if all items can take their ways at once, else the first certificate."""
    starts = strays(ways)
    if starts:
        return ("moved", starts[0])
    lists = pair_lists(nearby, ways)
    for position, circle in enumerate(_circles(nearby)):
        found = conflict_in(circle, lists[position])
        if found is not None:
            word, about = found
            return (word, position, about)
    return None


def rearranged(items, sources):
    """Return as a tuple the items at the positions sources, in this order."""
    return tuple([items[source] for source in sources])


def _sources(followers):
    """Return for every position where the item that ends there started; all is certain."""
    sources = [0 for _ in followers]
    for start in range(len(followers)):
        sources[end_from(followers, start)] = start
    return sources


def _followers_in(position, turn):
    return certain_followers([[position] + turn])


def _all_sources(rows):
    """Return the sources of all outcomes that the rows of every position allow, by their number."""
    chosen = [[]]
    for position, own in enumerate(rows):
        choices = [_followers_in(position, turn) for turn in turns_in(own, position)]
        chosen = [followers + [choice] for followers in chosen for choice in choices]
    return [_sources(followers) for followers in chosen]


def outcome_sources(forest):
    """Return for every outcome, by its number, where the item at each position started."""
    return _all_sources([rows_in(circle, []) for circle in _circles(neighbour_lists(forest))])


class Fitting:
    """The outcomes that fit an observation: at least one, and perhaps too many to list them."""

    def __init__(self, nearby, before, seen):
        self._nearby = nearby
        self._before = before
        self._seen = seen
        lists = pair_lists(nearby, seen_ways(nearby, before, seen))
        self._rows = [rows_in(circle, pairs) for circle, pairs in zip(_circles(nearby), lists)]

    def possible(self):
        """Return how many outcomes fit."""
        many = 1
        for rows in self._rows:
            many *= factorial(len(rows) - 1)
        return many

    def known(self):
        """Return the observation of the positions whose item is the same in all of them."""
        followers = [certain_followers(rows) for rows in self._rows]
        known = [None for _ in self._before]
        for start, item in enumerate(self._before):
            end = end_from(followers, start)
            if end is not None:
                known[end] = item
        return known

    def least(self):
        """Return the one with the least number."""
        turns = [least_turn(rows, position) for position, rows in enumerate(self._rows)]
        followers = [_followers_in(position, turn) for position, turn in enumerate(turns)]
        return list(rearranged(self._before, _sources(followers)))

    def share(self, item, position):
        """Return the fraction of them in which an item is at a position."""
        way = way_between(self._nearby, self._before.index(item), position)
        if way is None:
            return (0, 1)
        bottom = 1
        for step, x, y in _steps(way):
            choices = choices_for(self._rows[step], x, y)
            if choices == 0:
                return (0, 1)
            bottom *= choices
        return (1, bottom)

    def may_hold(self, position):
        """Return the ascending list of (item, fraction) for a position, without zeros."""
        found = [(item, self.share(item, position)) for item in sorted(self._before)]
        return [(item, fraction) for item, fraction in found if fraction[0] > 0]

    def where(self, item):
        """Return the ascending list of (position, fraction) for an item, without zeros."""
        found = [(position, self.share(item, position)) for position in range(len(self._before))]
        return [(position, fraction) for position, fraction in found if fraction[0] > 0]

    def see(self, position, item):
        """Return those with this item there, or None if there are none."""
        if self.share(item, position)[0] == 0:
            return None
        seen = list(self._seen)
        seen[position] = item
        return Fitting(self._nearby, self._before, seen)

    def holds(self, items):
        """Return whether an arrangement of these items is one of them."""
        if not all([entry in (None, item) for entry, item in zip(self._seen, items)]):
            return False
        return first_conflict(self._nearby, seen_ways(self._nearby, self._before, items)) is None

    def ways(self):
        """Return all of them as tuples, each with the number of its ways: one."""
        return {rearranged(self._before, sources): 1 for sources in _all_sources(self._rows)}
