"""A tracker as a plain list of all arrangements with their ways, without the program."""

from collections import Counter
from fractions import Fraction
from math import factorial, prod

from tests.oracle import results
from tests.partial_oracle import as_pair, nearby_by
from tests.samples import spelled_out, strips_to_nothing

SHIFTS = {}


def shifts(forest):
    """Every different way in which some order moves the items: for each position where from."""
    key = repr(forest)
    if key not in SHIFTS:
        SHIFTS[key] = [tuple(after) for after in results(forest, list(range(forest[0])))]
    return SHIFTS[key]


def is_pair(n, thing):
    return type(thing) is tuple and len(thing) == 2 and all(type(p) is int for p in thing) \
        and 0 <= thing[0] < thing[1] < n


def are_edges(n, edges):
    if type(edges) is not list or not all(is_pair(n, edge) for edge in edges):
        return False
    return edges == sorted(set(edges)) and strips_to_nothing(edges)


class PlainTracker:
    """Each method returns what the tracker's method must return, or the error as (name, field)."""

    def __init__(self, items):
        self.items = list(items)
        self.states = [Counter({tuple(items): 1})]
        self.calls = []
        self.marks = []

    def ways(self):
        return self.states[-1]

    def add(self, call, ways):
        if not ways:
            return ("NotReached", None)
        self.calls.append(call)
        self.states.append(ways)
        return None

    def spread(self, call, edges):
        forest = (len(self.items), edges)
        many = len(self.ways()) * prod(factorial(len(row)) for row in nearby_by(forest))
        if len(self.ways()) > 1 and many > 5000:
            return ("TooMany", many)
        after = Counter()
        for items, ways in self.ways().items():
            for shift in shifts(forest):
                after[tuple(items[p] for p in shift)] += ways
        return self.add(call, after)

    def bundle(self, edges):
        if not are_edges(len(self.items), edges):
            return ("NoForest", None)
        return self.spread(("bundle", list(edges)), edges)

    def swap(self, p, q):
        edge = tuple(sorted((p, q)))
        if not is_pair(len(self.items), edge):
            return ("NoEdge", None)
        return self.spread(("swap", p, q), [edge])

    def keep(self, call, test):
        kept = Counter({items: ways for items, ways in self.ways().items() if test(items)})
        return self.add(call, kept)

    def see(self, position, item):
        if position not in range(len(self.items)):
            return ("NoPosition", None)
        if item not in self.items:
            return ("NoItem", None)
        return self.keep(("see", position, item), lambda items: items[position] == item)

    def see_all(self, items):
        if not spelled_out(items, len(self.items)) or set(items) != set(self.items):
            return ("NoArrangement", None)
        return self.keep(("see_all", list(items)), lambda other: list(other) == items)

    def cut(self, many):
        self.calls, self.states = self.calls[:many], self.states[:many + 1]
        self.marks = [mark for mark in self.marks if mark <= many]

    def undo(self):
        if not self.calls:
            return ("Nothing", None)
        self.cut(len(self.calls) - 1)
        return None

    def mark(self):
        self.marks.append(len(self.calls))
        return len(self.marks) - 1

    def undo_to(self, mark):
        if mark not in range(len(self.marks)):
            return ("NoNumber", None)
        kept = self.marks[:mark + 1]
        self.cut(kept[-1])
        self.marks = kept
        return None

    def possible(self):
        return len(self.ways())

    def known(self):
        return [column[0] if len(set(column)) == 1 else None for column in zip(*self.ways())]

    def parts(self, read):
        found = Counter()
        for items, ways in self.ways().items():
            found[read(items)] += ways
        total = sum(found.values())
        return [(key, as_pair(Fraction(found[key], total))) for key in sorted(found)]

    def may_hold(self, position):
        if position not in range(len(self.items)):
            return ("NoPosition", None)
        return self.parts(lambda items: items[position])

    def where(self, item):
        if item not in self.items:
            return ("NoItem", None)
        return self.parts(lambda items: items.index(item))

    def history(self):
        return self.calls

    def twin(self):
        other = PlainTracker(self.items)
        other.states, other.calls, other.marks = list(self.states), list(self.calls), list(self.marks)
        return other
