import copy
import unittest

from onceswapped.errors import NoForest, NoPosition
from onceswapped.forests import degrees, is_forest, neighbours, path, trees
from tests.samples import (
    A, BIG, P, all_forests, edge_lists, error_of, lists_inside, mixed_forest, nested, odd_objects,
    path_forest, sized_forests, star_forest, strips_to_nothing)

NOT_POSITIONS = (-1, -2, -41, 40, 41, 1000, BIG, -BIG)


def with_edge(edges, at, thing):
    return edges[:at] + [thing] + edges[at + 1:]


def spoiled_sizes(n, edges):
    return [(size, edges) for size in
            (0, -1, -n, 41, BIG, -BIG, True, False, None, "", str(n), "a", [n], (n,), [])]


def spoiled_edges(n, edges, at):
    """The forest with its edge at an index changed into something that cannot stand there."""
    p, q = edges[at]
    things = [
        [p, q], (q, p), (p, p), (q, q), (p,), (p, q, q), (p, q, None), (), (p, None), (None, q),
        (p, str(q)), (str(p), q), (p, [q]), (p, (q,)), (p, True), (False, q), (True, q), (p, False),
        (-1, q), (p, n), (p, n + 1), (p, BIG), (-BIG, q), p, None, True, "ab", f"{p}-{q}",
        edges[at - 1] if len(edges) > 1 else None]
    return [(n, with_edge(edges, at, thing)) for thing in things]


def spoiled_lists(n, edges):
    """The forest with its edges in a wrong order or of a wrong kind."""
    things = [tuple(edges), None, 0, True, "", str(edges), (), {}, set(), [edges], [tuple(edges)],
              edges + [None], edges + [[]], [None] + edges, edges + edges[-1:], edges[:1] + edges]
    if len(edges) > 1:
        things += [edges[::-1], [edges[1], edges[0]] + edges[2:], edges + edges[:1],
                   edges[1:] + edges[:1]]
    return [(n, thing) for thing in things]


def spoiled_outside(n, edges):
    return [[n, edges], (n,), (edges,), (n, edges, None), (n, edges, edges), (n, n, edges), (edges, n),
            ((n, edges),), [(n, edges)], (n, *edges), (), n, edges]


def closing_edges(n, edges):
    """The forest with one edge more between two positions that are connected already."""
    forest = (n, edges)
    found = []
    for tree in trees(forest):
        for p in tree:
            for q in tree:
                if p < q and (p, q) not in edges:
                    found.append((n, sorted(edges + [(p, q)])))
    return found


def joining_edges(n, edges):
    """The forest with one edge more between two trees."""
    firsts = [tree[0] for tree in trees((n, edges))]
    lasts = [tree[-1] for tree in trees((n, edges))]
    return [(n, sorted(edges + [(min(p, q), max(p, q))]))
            for k, p in enumerate(firsts) for q in lasts[k + 1:]]


class IsForest(unittest.TestCase):
    def test_examples(self):
        self.assertIs(is_forest((2, [(1, 0)])), False)
        self.assertIs(is_forest((2, [(0, 1)])), True)
        self.assertIs(is_forest(A), True)
        self.assertIs(is_forest(P), True)

    def test_all_sizes(self):
        for forest in sized_forests():
            self.assertIs(is_forest(forest), True, forest)
            self.assertIs(is_forest(thing=forest), True)

    def test_every_small_list_of_edges(self):
        for n in range(1, 6):
            for edges in edge_lists(n):
                self.assertIs(is_forest((n, edges)), strips_to_nothing(edges), (n, edges))

    def test_limits_of_the_size(self):
        self.assertIs(is_forest((1, [])), True)
        self.assertIs(is_forest((40, [])), True)
        self.assertIs(is_forest((40, [(0, 39)])), True)
        self.assertIs(is_forest((0, [])), False)
        self.assertIs(is_forest((41, [])), False)
        self.assertIs(is_forest((True, [])), False)
        self.assertIs(is_forest((1, [(0, 1)])), False)
        self.assertIs(is_forest((2, [(0, True)])), False)
        self.assertIs(is_forest((2, [(False, 1)])), False)

    def test_one_part_changed(self):
        for forest in sized_forests():
            n, edges = forest
            wrong = spoiled_sizes(n, edges) + spoiled_outside(n, edges)
            if edges:
                wrong += spoiled_lists(n, edges)
                for at in (0, len(edges) // 2, len(edges) - 1):
                    wrong += spoiled_edges(n, edges, at)
            for thing in wrong:
                self.assertIs(is_forest(thing), False, thing)

    def test_positions_beyond_the_size(self):
        for forest in sized_forests():
            n, edges = forest
            for p in range(n):
                for q in (n, n + 1, 40):
                    self.assertIs(is_forest((n, sorted(edges + [(p, q)]))), False)

    def test_one_edge_more(self):
        for n in range(2, 14):
            for edges in (path_forest(n)[1], star_forest(n)[1], mixed_forest(n, n, 0.7)[1], []):
                for forest in closing_edges(n, edges):
                    self.assertIs(is_forest(forest), False, forest)
                for forest in joining_edges(n, edges):
                    self.assertIs(is_forest(forest), True, forest)
        for forest in closing_edges(*path_forest(40)) + closing_edges(*mixed_forest(40, 3)):
            self.assertIs(is_forest(forest), False)

    def test_long_cycle_beside_other_trees(self):
        ring = sorted(path_forest(30)[1] + [(0, 29)])
        self.assertIs(is_forest((40, ring)), False)
        self.assertIs(is_forest((40, ring[1:] + [(30, 31)])), True)
        self.assertIs(is_forest((6, [(0, 1), (3, 4), (3, 5), (4, 5)])), False)

    def test_other_objects(self):
        for thing in odd_objects():
            self.assertIs(is_forest(thing), False, thing)
        for kind in (list, tuple):
            for depth in range(1, 26):
                self.assertIs(is_forest(nested(kind, depth)), False)
        self.assertIs(is_forest((40, [(0, 1)] * 400)), False)
        self.assertIs(is_forest((40, [(p, q) for p in range(40) for q in range(p + 1, 40)])), False)


class Neighbours(unittest.TestCase):
    def test_examples(self):
        self.assertEqual(neighbours(A, 1), [0, 2, 3])
        self.assertEqual(neighbours(A, 0), [1])
        self.assertEqual(neighbours(A, 4), [])
        self.assertRaises(NoPosition, neighbours, A, 5)

    def test_every_position(self):
        for forest in sized_forests() + all_forests(4):
            n, edges = forest
            for p in range(n):
                expected = [q for q in range(n) if (p, q) in edges or (q, p) in edges]
                self.assertEqual(neighbours(forest, p), expected)
                self.assertEqual(neighbours(forest=forest, position=p), expected)
                self.assertEqual(neighbours(position=p, forest=forest), expected)


class Degrees(unittest.TestCase):
    def test_examples(self):
        self.assertEqual(degrees(A), [1, 3, 1, 1, 0])
        self.assertEqual(degrees(P), [1, 2, 2, 1])
        self.assertEqual(degrees((1, [])), [0])

    def test_every_position(self):
        for forest in sized_forests() + all_forests(4):
            n, edges = forest
            expected = [sum(p in edge for edge in edges) for p in range(n)]
            self.assertEqual(degrees(forest), expected)
            self.assertEqual(degrees(forest=forest), expected)


class Trees(unittest.TestCase):
    def test_examples(self):
        self.assertEqual(trees(A), [[0, 1, 2, 3], [4]])
        self.assertEqual(trees(P), [[0, 1, 2, 3]])
        self.assertEqual(trees((3, [])), [[0], [1], [2]])
        self.assertEqual(trees((5, [(0, 4), (1, 3)])), [[0, 4], [1, 3], [2]])

    def test_all_sizes(self):
        for forest in sized_forests() + all_forests(4):
            self.check(forest, trees(forest))
            self.assertEqual(trees(forest=forest), trees(forest))

    def check(self, forest, found):
        n, edges = forest
        self.assertEqual(sorted(p for tree in found for p in tree), list(range(n)))
        self.assertEqual(found, sorted(found))
        for tree in found:
            self.assertEqual(tree, sorted(tree))
            inside = [edge for edge in edges if edge[0] in tree or edge[1] in tree]
            self.assertTrue(all(p in tree and q in tree for p, q in inside))
            # A connected part of a forest has one edge fewer than positions; less is not connected.
            self.assertEqual(len(inside), len(tree) - 1)


class Path(unittest.TestCase):
    def test_examples(self):
        self.assertEqual([path(A, 0, 3), path(A, 4, 4), path(A, 0, 4)], [[0, 1, 3], [4], None])
        self.assertEqual(path(A, 3, 0), [3, 1, 0])
        self.assertEqual(path(P, 3, 0), [3, 2, 1, 0])
        self.assertEqual(path((1, []), 0, 0), [0])

    def test_every_pair(self):
        for forest in sized_forests()[::3] + all_forests(4):
            home = {p: tree for tree in trees(forest) for p in tree}
            for start in range(forest[0]):
                for end in range(forest[0]):
                    self.check(forest, start, end, home[start] == home[end])

    def check(self, forest, start, end, connected):
        found = path(forest, start, end)
        self.assertEqual(path(end=end, start=start, forest=forest), found)
        if not connected:
            self.assertIsNone(found)
            return
        self.assertIs(type(found), list)
        self.assertEqual((found[0], found[-1]), (start, end))
        self.assertEqual(len(set(found)), len(found))
        for p, q in zip(found, found[1:]):
            self.assertIn((min(p, q), max(p, q)), forest[1])


class Errors(unittest.TestCase):
    def test_invalid_forests(self):
        n, edges = A
        wrong = odd_objects() + spoiled_sizes(n, edges) + spoiled_lists(n, edges)
        wrong += spoiled_outside(n, edges) + closing_edges(n, edges) + spoiled_edges(n, edges, 1)
        for thing in wrong:
            self.assertIs(error_of(degrees, thing), NoForest)
            self.assertIs(error_of(trees, thing), NoForest)
            self.assertIs(error_of(degrees, forest=thing), NoForest)
            self.assertIs(error_of(trees, forest=thing), NoForest)
            for position in (0, 4) + NOT_POSITIONS:
                self.assertIs(error_of(neighbours, thing, position), NoForest)
                self.assertIs(error_of(neighbours, position=position, forest=thing), NoForest)
                self.assertIs(error_of(path, thing, position, 0), NoForest)
                self.assertIs(error_of(path, thing, 0, position), NoForest)
                self.assertIs(error_of(path, thing, position, position), NoForest)

    def test_positions_that_do_not_exist(self):
        for forest in (A, P, (1, []), star_forest(40), mixed_forest(17, 5, 0.5)):
            for position in (forest[0], forest[0] + 1) + NOT_POSITIONS:
                self.assertIs(error_of(neighbours, forest, position), NoPosition)
                self.assertIs(error_of(neighbours, position=position, forest=forest), NoPosition)
                self.assertIs(error_of(path, forest, position, 0), NoPosition)
                self.assertIs(error_of(path, forest, 0, position), NoPosition)
                self.assertIs(error_of(path, forest, position, position), NoPosition)

    def test_booleans_are_no_positions(self):
        for position in (True, False):
            self.assertIs(error_of(neighbours, A, position), NoPosition)
            self.assertIs(error_of(path, A, position, 0), NoPosition)
            self.assertIs(error_of(path, A, 0, position), NoPosition)


class Independence(unittest.TestCase):
    def answers(self, forest):
        last = forest[0] - 1
        found = [neighbours(forest, p) for p in range(forest[0])]
        found += [degrees(forest), trees(forest), path(forest, 0, 0), path(forest, 0, last)]
        return found + [path(forest, last, 0), is_forest(forest)]

    def test_arguments_stay(self):
        for forest in (A, P, (1, []), star_forest(9), mixed_forest(20, 1, 0.7)):
            kept = copy.deepcopy(forest)
            edges = forest[1]
            self.answers(forest)
            self.assertEqual(forest, kept)
            self.assertIs(forest[1], edges)
        for thing in odd_objects():
            kept = repr(thing)
            is_forest(thing)
            self.assertEqual(repr(thing), kept)

    def test_returned_lists_are_new(self):
        for forest in (A, P, (1, []), star_forest(9), mixed_forest(20, 1, 0.7)):
            found = lists_inside([forest, self.answers(forest), self.answers(forest)])
            self.assertEqual(len(set(id(part) for part in found)), len(found))

    def test_changed_answers_change_nothing(self):
        for forest in (A, P, (3, []), star_forest(9), mixed_forest(20, 1, 0.7)):
            first = self.answers(forest)
            kept = copy.deepcopy(first)
            for part in lists_inside(first):
                part.append(99)
                part.reverse()
            self.assertEqual(self.answers(forest), kept)

    def test_changed_arguments_change_no_earlier_answer(self):
        forest = (5, [(0, 1), (1, 2), (1, 3)])
        found = self.answers(forest)
        kept = copy.deepcopy(found)
        forest[1].append((3, 4))
        self.assertEqual(found, kept)
        self.assertEqual(trees(forest), [[0, 1, 2, 3, 4]])
        self.assertEqual(path(forest, 0, 4), [0, 1, 3, 4])
        self.assertEqual(degrees(forest), [1, 3, 1, 2, 1])


if __name__ == "__main__":
    unittest.main()
