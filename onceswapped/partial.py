"""What follows from an incomplete observation of the arrangement after the swaps."""

from onceswapped.arrange import check_arrangement
from onceswapped.errors import NoItem, NoObservation, NotReached
from onceswapped.fitting import Fitting, first_conflict, pair_lists, seen_ways, strays
from onceswapped.forests import check_forest, check_position, is_integer, is_position, neighbour_lists


def _is_observation(before, thing):
    """Return whether a thing, any object, is an observation of the items of an arrangement."""
    if not isinstance(thing, list) or len(thing) != len(before):
        return False
    entries = [entry for entry in thing if entry is not None]
    return all([entry in before for entry in entries]) and len(set(entries)) == len(entries)


def _check_seen(forest, before, seen):
    """Raise the first error of these three arguments, any objects."""
    check_forest(forest)
    check_arrangement(forest[0], before)
    if not _is_observation(before, seen):
        raise NoObservation("this is no observation of the items")


def _ways(forest, before, seen):
    """Return the neighbours of every position, and the ways of the seen items."""
    nearby = neighbour_lists(forest)
    return (nearby, seen_ways(nearby, before, seen))


def _fitting(forest, before, seen):
    """Return the outcomes that fit; raise NotReached if there are none."""
    nearby, ways = _ways(forest, before, seen)
    why = first_conflict(nearby, ways)
    if why is not None:
        raise NotReached(why)
    return Fitting(nearby, before, seen)


def demands(forest, before, seen):
    """Return for every position the ascending list of the pairs that the seen items put there."""
    _check_seen(forest, before, seen)
    nearby, ways = _ways(forest, before, seen)
    starts = strays(ways)
    if starts:
        raise NotReached(("moved", starts[0]))
    return pair_lists(nearby, ways)


def fits(forest, before, seen):
    """Return whether some outcome fits."""
    return conflict(forest, before, seen) is None


def fitting_count(forest, before, seen):
    """Return how many outcomes fit."""
    if not fits(forest, before, seen):
        return 0
    return Fitting(neighbour_lists(forest), before, seen).possible()


def conflict(forest, before, seen):
    """Return None if some outcome fits, else the first certificate that none does."""
    _check_seen(forest, before, seen)
    nearby, ways = _ways(forest, before, seen)
    return first_conflict(nearby, ways)


def _shows_loop(circle, pairs, row):
    """Return whether a row, any object, follows by pairs around a part of a circle, not all of it."""
    if not isinstance(row, list) or not 0 < len(row) < len(circle):
        return False
    # Python takes True for equal to 1, so looking the pairs up alone would let it pass.
    if not all([is_integer(entry) for entry in row]) or len(set(row)) < len(row):
        return False
    return all([pair in pairs for pair in zip(row, row[1:] + row[:1])])


def _shows_at(circle, pairs, word, about):
    """Return whether a word and what it is about, any objects, are a conflict of a position's pairs."""
    if word == "loop":
        return _shows_loop(circle, pairs, about)
    # Python takes True for equal to 1, so counting alone would let it pass.
    if not is_integer(about):
        return False
    if word == "from":
        return [x for x, _ in pairs].count(about) > 1
    return word == "into" and [y for _, y in pairs].count(about) > 1


def shows_conflict(forest, before, seen, thing):
    """Return whether a thing, any object, is a true certificate that no outcome fits."""
    _check_seen(forest, before, seen)
    if not isinstance(thing, tuple) or not 2 <= len(thing) <= 3:
        return False
    position = thing[1]
    if not is_position(forest[0], position):
        return False
    nearby, ways = _ways(forest, before, seen)
    if len(thing) == 2:
        return thing[0] == "moved" and position in strays(ways)
    circle = [position] + nearby[position]
    return _shows_at(circle, pair_lists(nearby, ways)[position], thing[0], thing[2])


def least_fitting(forest, before, seen):
    """Return the fitting outcome with the least number, or None."""
    if not fits(forest, before, seen):
        return None
    return Fitting(neighbour_lists(forest), before, seen).least()


def certain(forest, before, seen):
    """Return the observation of the positions whose item is the same in all fitting outcomes."""
    _check_seen(forest, before, seen)
    return _fitting(forest, before, seen).known()


def share_given(forest, before, seen, item, position):
    """Return the fraction of the fitting outcomes in which an item is at a position."""
    _check_seen(forest, before, seen)
    if item not in before:
        raise NoItem("the arrangement has no such item")
    check_position(forest, position)
    return _fitting(forest, before, seen).share(item, position)
