import unittest
from itertools import product
from math import comb, factorial

from onceswapped.errors import NoEdge
from onceswapped.precede import (
    exchanged, first_edges, last_edges, least_order, left_out, must_precede, order_fits,
    orders_counted, precedes)
from onceswapped.turns import order_of_turns
from tests.oracle import (
    after_by, arranged, needed, orders_by_hooks, pairs_by, some_order, turns_by)
from tests.samples import (
    A, BIG, P, all_orders, bad_orders, error_of, items_for, mixed_forest, odd_objects, path_forest,
    shuffled, sized_forests, star_forest)

ABCD = list("abcd")
NOT_EDGES = ((1, 0), (2, 1), (0, 0), (1, 1), (0, 2), (0, 3), (-1, 0), (-2, -1), (0, -1), (3, 4), (0, 4),
             (4, 5), (0, BIG), (BIG, 0), (-BIG, 0), (BIG, BIG), (BIG - 1, BIG))


def reached(forest, seed):
    """Items, an outcome of theirs, and its turns."""
    before = items_for(forest[0])
    order = shuffled(forest[1], seed)
    return before, after_by(before, order), turns_by(forest, order)


def path_order(n, ups):
    """An order of a path: edge k comes before edge k + 1 if entry k of ups is true."""
    order = [(0, 1)]
    for k, up in enumerate(ups):
        at = order.index((k, k + 1))
        order.insert(at + 1 if up else at, (k + 1, k + 2))
    return order


def path_orders_counted(ups):
    """How many orders of a path go up and down so: by the rank of the last edge among the others."""
    ranks = [1]
    for up in ups:
        size = len(ranks) + 1
        ranks = [sum(ranks[:k]) if up else sum(ranks[k:]) for k in range(size)]
    return sum(ranks)


def zigzag(m):
    """The number of permutations of m things that go up and down in turn, by their recurrence."""
    numbers = [1, 1]
    while len(numbers) <= m:
        k = len(numbers) - 1
        numbers.append(sum(comb(k, j) * numbers[j] * numbers[k - j] for j in range(k + 1)) // 2)
    return numbers[m]


class Examples(unittest.TestCase):
    def test_pairs(self):
        found = must_precede(P, ABCD, list("cadb"))
        self.assertEqual(found, [((1, 2), (0, 1)), ((1, 2), (2, 3))])
        self.assertIs(precedes(P, ABCD, list("cadb"), (0, 1), (2, 3)), False)
        self.assertIs(precedes(P, ABCD, list("cadb"), (1, 2), (2, 3)), True)
        self.assertIs(precedes(P, ABCD, list("cadb"), (2, 3), (1, 2)), False)
        self.assertIs(precedes(P, ABCD, list("cadb"), (1, 2), (1, 2)), False)
        self.assertEqual(must_precede((2, [(0, 1)]), ["a", "b"], ["b", "a"]), [])

    def test_orders(self):
        self.assertEqual(first_edges(P, ABCD, list("cadb")), [(1, 2)])
        self.assertEqual(last_edges(P, ABCD, list("cadb")), [(0, 1), (2, 3)])
        self.assertEqual(least_order(P, ABCD, list("cadb")), [(1, 2), (0, 1), (2, 3)])
        self.assertEqual(orders_counted(P, ABCD, list("cadb")), 2)
        self.assertIs(order_fits(P, ABCD, list("cadb"), [(1, 2), (2, 3), (0, 1)]), True)
        self.assertIs(order_fits(P, ABCD, list("cadb"), [(0, 1), (1, 2), (2, 3)]), False)

    def test_items(self):
        self.assertEqual(exchanged(P, ABCD, list("cadb"), (0, 1)), ("a", "c"))
        self.assertEqual(left_out(P, ABCD, list("cadb"), (0, 1)), ["a", "c", "d", "b"])
        self.assertEqual(exchanged((2, [(0, 1)]), ["b", "a"], ["a", "b"], (0, 1)), ("a", "b"))
        self.assertEqual(left_out((2, [(0, 1)]), ["b", "a"], ["a", "b"], (0, 1)), ["b", "a"])

    def test_a_position_without_edges(self):
        one = ((1, []), ["a"], ["a"])
        for function in (must_precede, first_edges, last_edges, least_order):
            self.assertEqual(function(*one), [])
        self.assertEqual(orders_counted(*one), 1)
        self.assertIs(order_fits(*one, []), True)
        self.assertIs(order_fits(*one, [()]), False)


class Pairs(unittest.TestCase):
    def test_must_precede(self):
        for k, forest in enumerate(sized_forests()):
            before, after, turns = reached(forest, k)
            expected = pairs_by(turns)
            self.assertEqual(must_precede(forest, before, after), expected)
            self.assertEqual(must_precede(after=after, before=before, forest=forest), expected)

    def test_precedes(self):
        for k, forest in enumerate(sized_forests()[::6] + [path_forest(40), star_forest(40)]):
            before, after, turns = reached(forest, k + 3)
            chosen = shuffled(forest[1], k)[:7]
            for one, other in product(chosen, repeat=2):
                expected = one in needed(turns, other)
                self.assertIs(precedes(forest, before, after, one, other), expected)

    def test_precedes_by_name(self):
        named = {"other": (2, 3), "one": (1, 2), "after": list("cadb"), "before": ABCD, "forest": P}
        self.assertIs(precedes(**named), True)
        named.update(one=(2, 3), other=(1, 2))
        self.assertIs(precedes(**named), False)

    def test_far_edges_of_a_path(self):
        forest = path_forest(40)
        before = items_for(40)
        after = after_by(before, forest[1])
        self.assertIs(precedes(forest, before, after, (0, 1), (38, 39)), True)
        self.assertIs(precedes(forest, before, after, (38, 39), (0, 1)), False)
        turned = after_by(before, path_order(40, [True] * 20 + [False] + [True] * 17))
        self.assertIs(precedes(forest, before, turned, (0, 1), (20, 21)), True)
        self.assertIs(precedes(forest, before, turned, (0, 1), (21, 22)), False)
        self.assertIs(precedes(forest, before, turned, (21, 22), (38, 39)), True)

    def test_edges_of_different_trees(self):
        forest = (8, [(0, 1), (0, 2), (3, 4), (3, 5), (6, 7)])
        before, after, _ = reached(forest, 4)
        for one, other in product(forest[1], repeat=2):
            if (one[0] < 3) != (other[0] < 3) or 6 in (one[0], other[0]):
                self.assertIs(precedes(forest, before, after, one, other), False)

    def test_an_edge_and_itself(self):
        for k, forest in enumerate(sized_forests()[::9]):
            before, after, _ = reached(forest, k)
            for edge in forest[1][::7]:
                self.assertIs(precedes(forest, before, after, edge, edge), False)

    def test_first_and_last_edges(self):
        for k, forest in enumerate(sized_forests()):
            before, after, turns = reached(forest, k + 8)
            back = [row[::-1] for row in turns]
            firsts = [edge for edge in forest[1] if not needed(turns, edge)]
            lasts = [edge for edge in forest[1] if not needed(back, edge)]
            self.assertEqual(first_edges(forest, before, after), firsts)
            self.assertEqual(last_edges(forest, before, after), lasts)
            self.assertEqual(first_edges(before=before, after=after, forest=forest), firsts)
            self.assertEqual(last_edges(before=before, after=after, forest=forest), lasts)

    def test_r6_the_way_back_turns_the_pairs_around(self):
        for k, forest in enumerate(sized_forests()[::4]):
            before, after, _ = reached(forest, k + 15)
            pairs = must_precede(forest, before, after)
            back = must_precede(forest, after, before)
            self.assertEqual(back, sorted((f, e) for e, f in pairs))
            self.assertEqual(first_edges(forest, after, before), last_edges(forest, before, after))
            self.assertEqual(orders_counted(forest, after, before), orders_counted(forest, before, after))


class LeastOrder(unittest.TestCase):
    def test_all_sizes(self):
        for k, forest in enumerate(sized_forests()):
            before, after, turns = reached(forest, k + 21)
            order = least_order(forest, before, after)
            self.assertEqual(order, order_of_turns(forest, turns))
            self.assertEqual(least_order(after=after, forest=forest, before=before), order)
            self.assertEqual(after_by(before, order), after)
            for seed in range(3):
                self.assertLessEqual(order, some_order(turns, seed))


class OrdersCounted(unittest.TestCase):
    def count(self, forest, order):
        before = items_for(forest[0])
        return orders_counted(forest, before, after_by(before, order))

    def test_all_sizes(self):
        for k, forest in enumerate(sized_forests()):
            before, after, turns = reached(forest, k + 33)
            expected = orders_by_hooks(forest[1], turns)
            self.assertEqual(orders_counted(forest, before, after), expected)
            self.assertEqual(orders_counted(after=after, before=before, forest=forest), expected)

    def test_the_kind_of_number(self):
        self.assertIs(type(self.count(P, P[1])), int)
        self.assertIs(type(self.count((40, []), [])), int)

    def test_no_edges(self):
        for n in range(1, 41):
            self.assertEqual(self.count((n, []), []), 1)

    def test_stars(self):
        for n in range(2, 41):
            forest = star_forest(n, n - 1)
            self.assertEqual(self.count(forest, shuffled(forest[1], n)), 1)

    def test_paths_up_and_down(self):
        for n in range(3, 41):
            forest = path_forest(n)
            alternating = [k % 2 == 0 for k in range(n - 2)]
            self.assertEqual(self.count(forest, path_order(n, alternating)), zigzag(n - 1))
            for ups in ([True] * (n - 2), [False] * (n - 2)):
                self.assertEqual(self.count(forest, path_order(n, ups)), 1)
            for turn in range(0, n - 1, 5):
                ups = [True] * turn + [False] * (n - 2 - turn)
                self.assertEqual(self.count(forest, path_order(n, ups)), comb(n - 2, turn))
            ups = [part == 1 for part in shuffled([k % 2 for k in range(n - 2)], n)]
            self.assertEqual(self.count(forest, path_order(n, ups)), path_orders_counted(ups))

    def test_all_outcomes_together_have_all_orders(self):
        forests = [path_forest(n) for n in range(2, 9)] + [star_forest(6), A]
        forests += [mixed_forest(n, n) for n in range(4, 8)] + [(9, [(0, 1), (2, 3), (2, 4), (5, 6), (6, 7)])]
        for forest in forests:
            before = items_for(forest[0])
            seen = set()
            total = 0
            for order in all_orders(forest):
                after = after_by(before, order)
                if tuple(after) not in seen:
                    seen.add(tuple(after))
                    total += orders_counted(forest, before, after)
            self.assertEqual(total, factorial(len(forest[1])))

    def test_several_trees(self):
        pairs = (40, [(p, p + 1) for p in range(0, 40, 2)])
        self.assertEqual(self.count(pairs, pairs[1]), factorial(20))
        stars = (40, [(8 * k, 8 * k + p) for k in range(5) for p in range(1, 8)])
        expected = factorial(35) // factorial(7) ** 5
        self.assertEqual(self.count(stars, shuffled(stars[1], 5)), expected)
        # A path that goes up and down, a star, and two edges by themselves.
        mixed = (30, path_forest(14)[1] + [(14, p) for p in range(15, 24)] + [(25, 27), (28, 29)])
        order = path_order(14, [k % 2 == 0 for k in range(12)]) + mixed[1][13:]
        expected = factorial(24) // (factorial(13) * factorial(9)) * zigzag(13)
        self.assertEqual(self.count(mixed, order), expected)


class OrderFits(unittest.TestCase):
    def test_orders_with_the_turns(self):
        for k, forest in enumerate(sized_forests()):
            before, after, turns = reached(forest, k + 44)
            for seed in range(4):
                order = some_order(turns, seed)
                self.assertIs(order_fits(forest, before, after, order), True)
                found = order_fits(thing=order, after=after, before=before, forest=forest)
                self.assertIs(found, True)

    def test_orders_with_other_turns(self):
        for k, forest in enumerate(sized_forests()):
            before, after, turns = reached(forest, k + 55)
            for order in (forest[1], forest[1][::-1], shuffled(forest[1], k)):
                expected = turns_by(forest, order) == turns
                self.assertIs(order_fits(forest, before, after, list(order)), expected)

    def test_lists_that_are_no_orders(self):
        for forest in (A, P, star_forest(7), mixed_forest(12, 4, 0.7), path_forest(40)):
            before, after, turns = reached(forest, 6)
            fitting = some_order(turns, 1)
            for k, edge in enumerate(fitting):
                other = fitting[k - 1]
                wrong = [edge[::-1], list(edge), str(edge), None, edge + edge[:1], (edge,), other]
                things = [fitting[:k] + [thing] + fitting[k + 1:] for thing in wrong]
                things += [fitting[:k] + fitting[k + 1:], fitting[:k] + [edge] + fitting[k:]]
                things += [fitting + [edge], fitting + [edge, edge], [edge, edge] + fitting]
                for thing in things:
                    self.assertIs(order_fits(forest, before, after, thing), False, thing)
            for thing in bad_orders(forest[1]) + [tuple(fitting), fitting + fitting, [fitting]]:
                self.assertIs(order_fits(forest, before, after, thing), False, thing)

    def test_what_produces_after_but_is_no_order(self):
        forest, before = (2, [(0, 1)]), ["a", "b"]
        for thing in ([(0, 1)] * 3, [(1, 0)], [[0, 1]], [(False, 1)], [(0, True)], ((0, 1),), [(0, -1)]):
            self.assertIs(order_fits(forest, before, ["b", "a"], thing), False, thing)
        self.assertIs(order_fits(forest, before, ["a", "b"], []), False)
        self.assertIs(order_fits(forest, before, ["a", "b"], [(0, 1), (0, 1)]), False)

    def test_after_is_no_outcome(self):
        for k, forest in enumerate(sized_forests()):
            before = items_for(forest[0])
            # With an even number of positions, all turned one place on, or back to where they were.
            for after in (before, arranged(before, [list(range(forest[0]))])):
                for order in (forest[1], shuffled(forest[1], k)):
                    expected = after_by(before, order) == after
                    self.assertIs(order_fits(forest, before, after, list(order)), expected)
        for order in all_orders(P) + odd_objects():
            for after in ("abcd", "acdb", "dcab", "badc"):
                self.assertIs(order_fits(P, ABCD, list(after), order), False)
            self.assertIs(order_fits((4, P[1][:2]), ABCD, list("abdc"), order), False)

    def test_other_objects(self):
        for forest in (A, P, path_forest(2), mixed_forest(40, 5), (3, [])):
            before, after, _ = reached(forest, 2)
            for thing in odd_objects():
                expected = thing == [] and forest[1] == []
                self.assertIs(order_fits(forest, before, after, thing), expected, thing)


class Exchanged(unittest.TestCase):
    def swapped_at(self, before, order, edge):
        there = after_by(before, order[:order.index(edge)])
        return tuple(sorted(there[p] for p in edge))

    def test_the_same_items_in_every_order(self):
        for k, forest in enumerate(sized_forests()):
            before, after, turns = reached(forest, k + 66)
            for edge in shuffled(forest[1], k)[:4]:
                found = exchanged(forest, before, after, edge)
                self.assertIs(type(found), tuple)
                self.assertEqual(found, tuple(sorted(found)))
                named = {"edge": edge, "after": after, "before": before, "forest": forest}
                self.assertEqual(exchanged(**named), found)
                for seed in range(3):
                    self.assertEqual(self.swapped_at(before, some_order(turns, seed), edge), found)

    def test_left_out(self):
        for k, forest in enumerate(sized_forests()):
            before, after, turns = reached(forest, k + 77)
            for edge in shuffled(forest[1], k)[:4]:
                found = left_out(forest, before, after, edge)
                named = {"edge": edge, "after": after, "before": before, "forest": forest}
                self.assertEqual(left_out(**named), found)
                for seed in range(3):
                    order = some_order(turns, seed)
                    order.remove(edge)
                    self.assertEqual(after_by(before, order), found)
                one, other = exchanged(forest, before, after, edge)
                expected = list(after)
                expected[after.index(one)], expected[after.index(other)] = other, one
                self.assertEqual(found, expected)

    def test_items_ascend_as_strings(self):
        forest = (2, [(0, 1)])
        for items in (["b", "a"], ["ab", "aa"], ["b", "ab"], ["aa", "a"], ["z", "aaaaaaaa"]):
            found = exchanged(forest, items, items[::-1], (0, 1))
            self.assertEqual(found, (items[1], items[0]))
            self.assertEqual(exchanged(forest, items[::-1], items, (0, 1)), found)


class NoEdges(unittest.TestCase):
    def test_tuples_that_are_no_edges(self):
        for after in ("cadb", "abcd"):
            arguments = (P, ABCD, list(after))
            for edge in NOT_EDGES:
                self.assertIs(error_of(precedes, *arguments, edge, (0, 1)), NoEdge)
                self.assertIs(error_of(precedes, *arguments, (0, 1), edge), NoEdge)
                self.assertIs(error_of(precedes, *arguments, edge, edge), NoEdge)
                self.assertIs(error_of(precedes, *arguments, edge, (1, 0)), NoEdge)
                self.assertIs(error_of(exchanged, *arguments, edge), NoEdge)
                self.assertIs(error_of(left_out, *arguments, edge), NoEdge)

    def test_all_pairs_of_positions(self):
        for forest in (A, star_forest(6, 3), mixed_forest(9, 2, 0.7), (3, [])):
            before, after, _ = reached(forest, 1)
            for edge in product(range(-1, forest[0] + 1), repeat=2):
                expected = None if edge in forest[1] else NoEdge
                self.assertIs(error_of(exchanged, forest, before, after, edge), expected)
                self.assertIs(error_of(left_out, forest, before, after, edge), expected)
                self.assertIs(error_of(precedes, forest, before, after, edge, edge), expected)

    def test_booleans_are_no_positions(self):
        arguments = ((2, [(0, 1)]), ["a", "b"], ["b", "a"])
        for edge in ((0, True), (False, 1), (False, True)):
            self.assertIs(error_of(exchanged, *arguments, edge), NoEdge)
            self.assertIs(error_of(left_out, *arguments, edge), NoEdge)
            self.assertIs(error_of(precedes, *arguments, edge, (0, 1)), NoEdge)
            self.assertIs(error_of(precedes, *arguments, (0, 1), edge), NoEdge)


if __name__ == "__main__":
    unittest.main()
