"""Circles: a position and then its turn, read around.

A pair (x, y) says that y directly follows x in a circle. Pairs that can all hold join the members
of a circle to rows, each entry of a row following the one before it. A circle that fits the pairs
puts whole rows behind one another.
"""

from itertools import permutations


def row_from(following, first):
    """Return a member and what follows it, up to the last one before it again."""
    row = [first]
    while row[-1] in following and following[row[-1]] != first:
        row.append(following[row[-1]])
    return row


def conflict_in(circle, pairs):
    """Return None if the pairs can all hold, else a word and the member or row that it is about."""
    for word, at in (("from", 0), ("into", 1)):
        ends = [pair[at] for pair in pairs]
        doubled = [member for member in ends if ends.count(member) > 1]
        if doubled:
            return (word, min(doubled))
    following = dict(pairs)
    # Taken from the least member on, the first loop is the least one, and begins with its least entry.
    for first in sorted(following):
        row = row_from(following, first)
        if following.get(row[-1]) == first and len(row) < len(circle):
            return ("loop", row)
    return None


def rows_in(circle, pairs):
    """Return the rows to which pairs that can all hold join the members of a circle."""
    following = dict(pairs)
    followers = [y for _, y in pairs]
    firsts = [member for member in circle if member not in followers]
    if not firsts:
        # The pairs close the whole circle, which is one row from wherever it is read.
        firsts = circle[:1]
    return [row_from(following, first) for first in firsts]


def _row_with(rows, member):
    return [row for row in rows if member in row][0]


def _rows_without(rows, member):
    return sorted([row for row in rows if member not in row])


def choices_for(rows, x, y):
    """Return among how many members, all equally frequent, y is if it can follow x, else 0."""
    home = _row_with(rows, x)
    at = home.index(x) + 1
    choices = [row[0] for row in _rows_without(rows, x)]
    if at < len(home):
        choices = home[at:at + 1]
    elif not choices:
        choices = home[:1]
    return len(choices) if y in choices else 0


def _turn_from(rows, position, others):
    """Return the turn of a position in which these other rows stand in this order."""
    home = _row_with(rows, position)
    at = home.index(position)
    return home[at + 1:] + [member for row in others for member in row] + home[:at]


def least_turn(rows, position):
    """Return the least turn of a position that its rows allow."""
    return _turn_from(rows, position, _rows_without(rows, position))


def turns_in(rows, position):
    """Return all turns of a position that its rows allow, in ascending order."""
    others = _rows_without(rows, position)
    return [_turn_from(rows, position, chosen) for chosen in permutations(others)]


def certain_followers(rows):
    """Return, for each member whose follower is certain, this follower."""
    followers = {}
    for row in rows:
        for x, y in zip(row, row[1:]):
            followers[x] = y
    # One row, or two rows, can be closed to a circle in one way only.
    if len(rows) <= 2:
        for row, other in zip(rows, rows[::-1]):
            followers[row[-1]] = other[0]
    return followers


def end_from(followers, start):
    """Return where the item from start ends, or None if that is not certain.

    For every position the followers tell which neighbour an item goes to next, by the neighbour
    that it came from; the position itself stands for its beginning and its end.
    """
    source, here = start, start
    while source in followers[here]:
        there = followers[here][source]
        if there == here:
            return here
        source, here = here, there
    return None
