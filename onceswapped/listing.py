"""Possible arrangements that are listed one by one, each with its number of ways."""

from onceswapped.errors import TooMany
from onceswapped.fitting import rearranged
from onceswapped.shares import lowest

MOST_LISTED = 5000


def check_many(many):
    """Raise TooMany if so many arrangements are not to be listed."""
    if many > MOST_LISTED:
        raise TooMany(many)


def spread(ways, outcomes):
    """Return the arrangements after any one of some outcomes, with the ways that lead to each.

    An outcome tells for every position from where its item comes.
    """
    after = {}
    for items, many in ways.items():
        for sources in outcomes:
            result = rearranged(items, sources)
            after[result] = after.get(result, 0) + many
    return after


def _fractions(ways):
    """Return the ascending list of the keys, each with its fraction of all ways."""
    total = sum(ways.values())
    return [(key, lowest(ways[key], total)) for key in sorted(ways)]


class Listing:
    """Arrangements, at least one, as the keys of a dict of their ways that nobody modifies."""

    def __init__(self, ways):
        self._ways = ways

    def possible(self):
        """Return how many arrangements there are."""
        return len(self._ways)

    def known(self):
        """Return the observation of the positions that are the same in all of them."""
        listed = list(self._ways)
        return [item if all([items[position] == item for items in listed]) else None
                for position, item in enumerate(listed[0])]

    def may_hold(self, position):
        """Return the ascending list of (item, fraction of all ways) for a position."""
        ways = {}
        for items, many in self._ways.items():
            ways[items[position]] = ways.get(items[position], 0) + many
        return _fractions(ways)

    def where(self, item):
        """Return the ascending list of (position, fraction of all ways) for an item."""
        ways = {}
        for items, many in self._ways.items():
            position = items.index(item)
            ways[position] = ways.get(position, 0) + many
        return _fractions(ways)

    def see(self, position, item):
        """Return those with this item there, or None if there are none."""
        kept = {items: many for items, many in self._ways.items() if items[position] == item}
        return Listing(kept) if kept else None

    def holds(self, items):
        """Return whether an arrangement is one of them."""
        return tuple(items) in self._ways

    def ways(self):
        """Return all of them as tuples, each with its number of ways."""
        return self._ways
