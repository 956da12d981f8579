"""The outcomes of a forest, numbered in ascending order of their turns."""

from math import factorial

from onceswapped.arrange import check_arrangement
from onceswapped.errors import NoNumber
from onceswapped.forests import check_forest, degrees, neighbour_lists
from onceswapped.judge import turns_of
from onceswapped.turns import after_turns


def outcome_count(forest):
    """Return the number of outcomes."""
    count = 1
    for degree in degrees(forest):
        count *= factorial(degree)
    return count


def _turn_with(nearby, number):
    """Return the permutation of ascending neighbours that has a number among all of them."""
    waiting = list(nearby)
    turn = []
    while waiting:
        at, number = divmod(number, factorial(len(waiting) - 1))
        turn.append(waiting.pop(at))
    return turn


def _turn_number(turn):
    """Return the number of a turn among all permutations of its neighbours."""
    waiting = sorted(turn)
    number = 0
    for neighbour in turn:
        number = number * len(waiting) + waiting.index(neighbour)
        waiting.remove(neighbour)
    return number


def outcome(forest, items, number):
    """Return the outcome with a number."""
    check_forest(forest)
    check_arrangement(forest[0], items)
    if not 0 <= number < outcome_count(forest):
        raise NoNumber("no outcome has this number")
    turns = []
    # The last position counts first: the turns before it differ only after all of its own.
    for nearby in neighbour_lists(forest)[::-1]:
        number, own = divmod(number, factorial(len(nearby)))
        turns.append(_turn_with(nearby, own))
    return after_turns(forest, items, turns[::-1])


def outcome_number(forest, before, after):
    """Return the number of an outcome."""
    number = 0
    for turn in turns_of(forest, before, after):
        number = number * factorial(len(turn)) + _turn_number(turn)
    return number
