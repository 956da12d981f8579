"""A tracker of the possible arrangements, updated step by step."""

from onceswapped.arrange import check_arrangement, check_change
from onceswapped.errors import NoArrangement, NoEdge, NoItem, NoNumber, Nothing, NotReached
from onceswapped.fitting import Fitting, outcome_sources
from onceswapped.forests import (
    MOST_POSITIONS, check_forest, check_position, edge_between, is_position, neighbour_lists)
from onceswapped.listing import Listing, check_many, spread
from onceswapped.outcomes import outcome_count


def _outcomes_of(forest, items):
    """Return the outcomes of a forest from one arrangement, of which nothing is seen yet."""
    return Fitting(neighbour_lists(forest), list(items), [None for _ in items])


def _next_state(state, forest):
    """Return the possible arrangements after a forest."""
    many = state.possible()
    if many == 1:
        return _outcomes_of(forest, state.known())
    check_many(many * outcome_count(forest))
    return Listing(spread(state.ways(), outcome_sources(forest)))


class Tracker:
    """The possible arrangements of some items, each with its number of ways.

    Every call that changes them adds a state, a Fitting or a Listing. States are never modified,
    so that going back is dropping the later ones, and twins may share them.
    """

    def __init__(self, items):
        if not isinstance(items, list) or not 1 <= len(items) <= MOST_POSITIONS:
            raise NoArrangement("this is no list of one to forty items")
        check_arrangement(len(items), items)
        self._items = list(items)
        self._states = [_outcomes_of(self._with_edges([]), items)]
        self._calls = []
        # For every mark how many calls there were.
        self._marks = []

    def _with_edges(self, edges):
        return (len(self._items), edges)

    def _check_item(self, item):
        if item not in self._items:
            raise NoItem("the tracker has no such item")

    def _take(self, call, state):
        """Add a call and the state that it leads to; None is no state."""
        if state is None:
            raise NotReached(None)
        self._calls.append(call)
        self._states.append(state)

    def _go_back(self, many):
        """Keep the first calls only, so many, and the marks that were made up to there."""
        self._calls = self._calls[:many]
        self._states = self._states[:many + 1]
        self._marks = [calls for calls in self._marks if calls <= many]

    def bundle(self, edges):
        """Replace every possible arrangement by its outcomes for the forest of these edges."""
        check_forest(self._with_edges(edges))
        own = list(edges)
        self._take(("bundle", own), _next_state(self._states[-1], self._with_edges(own)))

    def swap(self, p, q):
        """Swap the items at two positions."""
        n = len(self._items)
        if not is_position(n, p) or not is_position(n, q) or p == q:
            raise NoEdge("these are not two positions")
        self._take(("swap", p, q), _next_state(self._states[-1], self._with_edges([edge_between(p, q)])))

    def see(self, position, item):
        """Keep the arrangements with this item there."""
        check_position(self._with_edges([]), position)
        self._check_item(item)
        self._take(("see", position, item), self._states[-1].see(position, item))

    def see_all(self, items):
        """Keep this arrangement alone."""
        check_change(self._with_edges([]), self._items, items)
        own = list(items)
        held = self._states[-1].holds(own)
        self._take(("see_all", own), _outcomes_of(self._with_edges([]), own) if held else None)

    def undo(self):
        """Undo the last bundle, swap, see or see_all."""
        if not self._calls:
            raise Nothing("there is no call to undo")
        self._go_back(len(self._calls) - 1)

    def mark(self):
        """Make a mark and return its number."""
        self._marks.append(len(self._calls))
        return len(self._marks) - 1

    def undo_to(self, mark):
        """Restore the state at a mark, and remove the later marks."""
        if not 0 <= mark < len(self._marks):
            raise NoNumber("there is no such mark")
        self._go_back(self._marks[mark])
        self._marks = self._marks[:mark + 1]

    def possible(self):
        """Return the number of possible arrangements."""
        return self._states[-1].possible()

    def known(self):
        """Return the observation of the positions that are the same in all of them."""
        return self._states[-1].known()

    def may_hold(self, position):
        """Return the ascending list of (item, fraction) for a position, without zeros."""
        check_position(self._with_edges([]), position)
        return self._states[-1].may_hold(position)

    def where(self, item):
        """Return the ascending list of (position, fraction) for an item, without zeros."""
        self._check_item(item)
        return self._states[-1].where(item)

    def history(self):
        """Return the list of the calls that hold, as they were made."""
        return [tuple([list(part) if isinstance(part, list) else part for part in call])
                for call in self._calls]

    def __len__(self):
        return len(self._calls)

    def twin(self):
        """Return an independent copy, marks included."""
        other = Tracker(self._items)
        other._states = list(self._states)
        other._calls = list(self._calls)
        other._marks = list(self._marks)
        return other
