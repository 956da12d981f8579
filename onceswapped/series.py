"""Several forests of the same positions, whose outcomes happen one after the other."""

from onceswapped.arrange import check_arrangement, check_change
from onceswapped.errors import NoForest
from onceswapped.fitting import outcome_sources, rearranged
from onceswapped.forests import check_ends, is_forest
from onceswapped.listing import check_many, spread
from onceswapped.outcomes import outcome_count
from onceswapped.shares import lowest, share_table

MOST_FORESTS = 6


def _check_forests(forests):
    """Raise NoForest if the argument, any object, is no list of forests of the same size."""
    if not isinstance(forests, list) or not 1 <= len(forests) <= MOST_FORESTS:
        raise NoForest("this is no list of one to six forests")
    if not all([is_forest(forest) for forest in forests]):
        raise NoForest("one of these is no forest")
    if len(set([forest[0] for forest in forests])) > 1:
        raise NoForest("these forests differ in their number of positions")


def _check_plans(forests):
    """Raise TooMany if there are too many plans to try them."""
    plans = 1
    for forest in forests:
        plans *= outcome_count(forest)
    check_many(plans)


def _total(fractions):
    """Return the sum of some fractions."""
    top, bottom = 0, 1
    for one, parts in fractions:
        top, bottom = lowest(top * parts + one * bottom, bottom * parts)
    return (top, bottom)


def _after_table(chances, table):
    """Return the chances of all positions after a forest with this table of shares."""
    after = []
    for end in range(len(chances)):
        parts = [(a * row[end][0], b * row[end][1]) for (a, b), row in zip(chances, table)]
        after.append(_total(parts))
    return after


def series_share(forests, start, end):
    """Return the fraction of all plans in which the item from start ends at end."""
    _check_forests(forests)
    check_ends(forests[0], start, end)
    chances = [(0, 1) for _ in range(forests[0][0])]
    chances[start] = (1, 1)
    for forest in forests:
        chances = _after_table(chances, share_table(forest))
    return chances[end]


def _ways_after(forests, before):
    """Return the arrangements that plans lead to, as tuples, with the number of these plans."""
    ways = {tuple(before): 1}
    for forest in forests:
        ways = spread(ways, outcome_sources(forest))
    return ways


def series_after(forests, before):
    """Return the ascending list of (arrangement, number of plans) that plans lead to."""
    _check_forests(forests)
    check_arrangement(forests[0][0], before)
    _check_plans(forests)
    ways = _ways_after(forests, before)
    return [(list(items), ways[items]) for items in sorted(ways)]


def _check_all(forests, before, after):
    """Raise the first error of these three arguments, any objects."""
    _check_forests(forests)
    check_change(forests[0], before, after)
    _check_plans(forests)


def series_count(forests, before, after):
    """Return how many plans lead to after."""
    _check_all(forests, before, after)
    return _ways_after(forests, before).get(tuple(after), 0)


def _one_forest_longer(plans, outcomes):
    """Return for every arrangement after one more forest the least plan to it.

    The plans are in ascending order, so the first one to an arrangement is the least, and the
    longer plans are in ascending order again.
    """
    longer = {}
    for items, plan in plans.items():
        for number, sources in enumerate(outcomes):
            after = rearranged(items, sources)
            if after not in longer:
                longer[after] = plan + [number]
    return longer


def series_plan(forests, before, after):
    """Return the least plan that leads to after, or None."""
    _check_all(forests, before, after)
    plans = {tuple(before): []}
    for forest in forests:
        plans = _one_forest_longer(plans, outcome_sources(forest))
    return plans.get(tuple(after))
