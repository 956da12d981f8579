"""What the document says of incomplete observations, worked out plainly and without the program."""

from fractions import Fraction
from itertools import permutations
from math import factorial, prod

from tests.oracle import homes, leads


def nearby_by(forest):
    """For every position the ascending list of its neighbours."""
    return [sorted(p + q - at for p, q in forest[1] if at in (p, q)) for at in range(forest[0])]


def way_by(forest, start, end, nearby=None):
    """The only way from start to end that visits no position twice, or None."""
    nearby = nearby or nearby_by(forest)
    ways = [[start]]
    while ways:
        way = ways.pop()
        if way[-1] == end:
            return way
        ways += [way + [p] for p in nearby[way[-1]] if p not in way[-2:]]
    return None


def all_turns(forest):
    """All turns of a small forest, in ascending order."""
    found = [[]]
    for row in nearby_by(forest):
        found = [turns + [list(turn)] for turns in found for turn in permutations(row)]
    return found


def after_by_turns(forest, before, turns):
    """The outcome with these turns, found with R4 for every item."""
    after = [None] * forest[0]
    for start, item in enumerate(before):
        ends = [start] if not turns[start] else []
        for end in range(forest[0]):
            way = way_by(forest, start, end)
            if end != start and way is not None and leads(turns, way):
                ends.append(end)
        assert len(ends) == 1 and after[ends[0]] is None
        after[ends[0]] = item
    return after


def agrees(after, seen):
    return all(entry is None or entry == item for entry, item in zip(seen, after))


def strays_by(forest, before, seen):
    """The starts of the items that are seen in another tree, ascending."""
    home = homes(forest)
    return sorted(before.index(item) for end, item in enumerate(seen)
                  if item is not None and before.index(item) not in home[end])


def demanded(forest, before, seen):
    """For every position the ascending list of the pairs that the seen items put there."""
    nearby = nearby_by(forest)
    pairs = [set() for _ in nearby]
    for end, item in enumerate(seen):
        way = None if item is None else way_by(forest, before.index(item), end, nearby)
        if way is not None and len(way) == 1 and nearby[end]:
            pairs[end].add((end, end))
        if way is not None and len(way) > 1:
            pairs[way[0]].add((way[0], way[1]))
            pairs[way[-1]].add((way[-2], way[-1]))
            for k in range(1, len(way) - 1):
                pairs[way[k]].add((way[k - 1], way[k + 1]))
    return [sorted(row) for row in pairs]


def follows(position, turn, pair):
    """Whether one entry directly follows the other in the position and then its turn, around."""
    circle = [position] + list(turn)
    return circle[(circle.index(pair[0]) + 1) % len(circle)] == pair[1]


def turns_for(position, nearby, pairs):
    """All turns of one position in which its pairs hold, ascending."""
    return [list(turn) for turn in permutations(nearby)
            if all(follows(position, turn, pair) for pair in pairs)]


def count_by_turns(forest, before, seen):
    """How many outcomes fit, by trying all turns of each position by itself."""
    if strays_by(forest, before, seen):
        return 0
    pairs = demanded(forest, before, seen)
    return prod(len(turns_for(position, nearby, pairs[position]))
                for position, nearby in enumerate(nearby_by(forest)))


def least_by_turns(forest, before, seen):
    """The turns of the fitting outcome with the least number."""
    pairs = demanded(forest, before, seen)
    return [turns_for(position, nearby, pairs[position])[0]
            for position, nearby in enumerate(nearby_by(forest))]


def count_in_stars(forest, before, seen):
    """How many outcomes of stars fit: no edges cross there, so every ring of all positions will do."""
    many = 1
    home = homes(forest)
    to = {before.index(item): end for end, item in enumerate(seen) if item is not None}
    if any(end not in home[start] for start, end in to.items()):
        return 0
    for tree in sorted(set(tuple(sorted(positions)) for positions in home)):
        parts = [[p] for p in tree]
        for start, end in to.items():
            if start in tree:
                one = [part for part in parts if part[-1] == start][0]
                other = [part for part in parts if part[0] == end][0]
                if one == other and len(parts) > 1:
                    return 0
                if one != other:
                    parts.remove(other)
                    one += other
        many *= factorial(len(parts) - 1)
    return many


def loops_by(pairs):
    """Every row in which each next entry follows by a pair, and the first follows the last."""
    found = []
    rows = [[x] for x in sorted(set(x for x, _ in pairs))]
    while rows:
        row = rows.pop()
        if (row[-1], row[0]) in pairs:
            found.append(row)
        rows += [row + [y] for x, y in pairs if x == row[-1] and y not in row]
    return sorted(found)


def position_certificates(position, nearby, pairs):
    """The certificates of one position: from, into and loop, with all rows, each ascending."""
    circle = [position] + nearby
    first, second = [x for x, _ in pairs], [y for _, y in pairs]
    found = [("from", position, x) for x in circle if first.count(x) > 1]
    into = [("into", position, y) for y in circle if second.count(y) > 1]
    loops = [("loop", position, row) for row in loops_by(pairs) if len(row) < len(circle)]
    return sorted(found), sorted(into), loops


def forms_by_position(forest, before, seen):
    """The certificates of every position."""
    rows = zip(nearby_by(forest), demanded(forest, before, seen))
    return [position_certificates(position, nearby, pairs) for position, (nearby, pairs) in enumerate(rows)]


def conflict_certificates(forest, before, seen):
    """Everything that shows_conflict must accept."""
    true = [("moved", start) for start in strays_by(forest, before, seen)]
    for forms in forms_by_position(forest, before, seen):
        for found in forms:
            true += found
    return true


def first_conflict_by(forest, before, seen):
    """What conflict must return."""
    for start in strays_by(forest, before, seen):
        return ("moved", start)
    for forms in forms_by_position(forest, before, seen):
        for found in forms:
            if found:
                return found[0]
    return None


def as_pair(fraction):
    return (fraction.numerator, fraction.denominator)


def part_of(some, many):
    """A fraction as the document writes it."""
    return as_pair(Fraction(some, many))
