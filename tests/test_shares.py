import unittest
from fractions import Fraction
from functools import lru_cache
from itertools import product
from math import factorial, gcd, prod

from onceswapped.errors import NoPosition
from onceswapped.outcomes import outcome, outcome_count
from onceswapped.precede import orders_counted
from onceswapped.shares import order_share, share, share_table
from tests.oracle import homes, results
from tests.partial_oracle import as_pair, nearby_by, part_of, way_by
from tests.samples import (
    A, BIG, P, all_forests, error_of, items_for, lists_inside, mixed_forest, path_forest,
    sized_forests, star_forest)

# Three trees with several edges beside their paths: a spider, a broom and a caterpillar.
SPIDER = (10, [(0, 1), (0, 2), (0, 3), (1, 4), (2, 5), (3, 6), (4, 7), (5, 8), (6, 9)])
BROOM = (12, [(0, 1), (1, 2), (2, 3), (3, 4), (4, 5), (4, 6), (4, 7), (4, 8), (4, 9), (4, 10), (4, 11)])
CATERPILLAR = (15, sorted([(p, p + 1) for p in range(7)] + [(p, p + 7) for p in range(1, 8)]))


def share_by(forest, start, end):
    way = way_by(forest, start, end)
    if way is None:
        return (0, 1)
    nearby = nearby_by(forest)
    if start == end:
        return (0, 1) if nearby[start] else (1, 1)
    return (1, prod(len(nearby[p]) for p in way))


def order_share_by(forest, start, end):
    """The part of the orders, by counting how an order may go on, one edge after the other."""
    way = way_by(forest, start, end)
    nearby = nearby_by(forest)
    if way is None or start == end:
        return share_by(forest, start, end)
    steps = len(way) - 1

    @lru_cache(maxsize=None)
    def ways_on(done, left):
        """How many ways there are to go on after some edges of the way, with edges aside left."""
        if done == steps and not any(left):
            return 1
        ways = 0
        if done < steps:
            ways += ways_on(done + 1, left)
        for at, many in enumerate(left):
            # After done edges of the way, an edge of way[done] would lead the item away from it.
            if many > 0 and at != done:
                ways += many * ways_on(done, left[:at] + (many - 1,) + left[at + 1:])
        return ways

    aside = tuple(len(set(nearby[p]) - set(way)) for p in way)
    return part_of(ways_on(0, aside), factorial(steps + sum(aside)))


def total(fractions):
    return sum((Fraction(*fraction) for fraction in fractions), Fraction(0))


class Examples(unittest.TestCase):
    def test_share(self):
        self.assertEqual([share(A, 0, 2), share(P, 0, 3), share(A, 4, 4)], [(1, 3), (1, 4), (1, 1)])

    def test_order_share(self):
        self.assertEqual(order_share(P, 0, 3), (1, 6))

    def test_share_table(self):
        self.assertEqual(share_table((2, [(0, 1)])), [[(0, 1), (1, 1)], [(1, 1), (0, 1)]])


class Small(unittest.TestCase):
    def test_against_all_orders(self):
        forests = all_forests(1) + all_forests(2) + all_forests(3) + all_forests(4)
        for forest in forests + all_forests(5)[::5] + all_forests(6)[::200] + [SPIDER[:1] + (SPIDER[1][:7],)]:
            self.check(forest)

    def check(self, forest):
        before = items_for(forest[0])
        found = results(forest, before)
        orders = sum(map(len, found.values()))
        self.assertEqual(orders, factorial(len(forest[1])))
        table = share_table(forest)
        for start, end in product(range(forest[0]), repeat=2):
            there = [after for after in found if after[end] == before[start]]
            ways = sum(len(found[after]) for after in there)
            self.assertEqual(share(forest, start, end), part_of(len(there), len(found)))
            self.assertEqual(table[start][end], part_of(len(there), len(found)))
            self.assertEqual(order_share(forest, start, end), part_of(ways, orders))

    def test_shares_count_outcomes_and_orders(self):
        for forest in (A, P, star_forest(6, 2), mixed_forest(8, 1), mixed_forest(9, 2, 0.8), SPIDER, BROOM):
            if outcome_count(forest) > 800:
                continue
            before = items_for(forest[0])
            many = outcome_count(forest)
            found = [outcome(forest, before, number) for number in range(many)]
            ways = [orders_counted(forest, before, after) for after in found]
            for start, end in product(range(forest[0]), repeat=2):
                there = [k for k, after in enumerate(found) if after[end] == before[start]]
                self.assertEqual(Fraction(*share(forest, start, end)) * many, len(there))
                orders = Fraction(*order_share(forest, start, end)) * factorial(len(forest[1]))
                self.assertEqual(orders, sum(ways[k] for k in there))


class Shares(unittest.TestCase):
    def test_all_sizes(self):
        for forest in sized_forests()[::3]:
            table = share_table(forest=forest)
            for start in range(forest[0]):
                for end in range(start % 3, forest[0], 3):
                    expected = share_by(forest, start, end)
                    self.assertEqual(share(forest, start, end), expected)
                    self.assertEqual(table[start][end], expected)

    def test_by_name(self):
        self.assertEqual(share(end=2, start=0, forest=A), (1, 3))
        self.assertEqual(order_share(end=3, start=0, forest=P), (1, 6))
        self.assertEqual(share_table(forest=(1, [])), [[(1, 1)]])

    def test_rows_and_columns_sum_to_one(self):
        for forest in sized_forests():
            table = share_table(forest)
            self.assertEqual([len(row) for row in table], [forest[0]] * forest[0])
            for at, row in enumerate(table):
                self.assertEqual(total(row), 1)
                self.assertEqual(total([other[at] for other in table]), 1)

    def test_rows_are_different_lists(self):
        for forest in (A, P, (6, []), star_forest(40)):
            tables = [share_table(forest), share_table(forest)]
            found = lists_inside(tables)
            self.assertEqual(len(found), 2 * forest[0] + 3)
            self.assertEqual(len(set(map(id, found))), len(found))
            kept = repr(tables[1])
            for row in tables[0]:
                row.append("more")
            self.assertEqual(repr(tables[1]), kept)
            self.assertEqual(repr(share_table(forest)), kept)

    def test_a_position_and_itself(self):
        for forest in sized_forests()[::4]:
            for p, row in enumerate(nearby_by(forest)):
                expected = (0, 1) if row else (1, 1)
                self.assertEqual(share(forest, p, p), expected)
                self.assertEqual(order_share(forest, p, p), expected)

    def test_different_trees(self):
        for forest in (A, (4, [(0, 1), (2, 3)]), (40, []), mixed_forest(30, 230, 0.4)):
            home = homes(forest)
            pairs = [(v, u) for v in range(forest[0]) for u in range(forest[0]) if u not in home[v]]
            self.assertTrue(pairs)
            for start, end in pairs:
                self.assertEqual(share(forest, start, end), (0, 1))
                self.assertEqual(order_share(forest, start, end), (0, 1))


class OrderShares(unittest.TestCase):
    def test_another_count(self):
        for forest in (A, P, SPIDER, BROOM, CATERPILLAR, star_forest(12), mixed_forest(11, 5),
                       mixed_forest(14, 8, 0.8), mixed_forest(12, 9)):
            for start, end in product(range(forest[0]), repeat=2):
                expected = order_share_by(forest, start, end)
                self.assertEqual(order_share(forest, start, end), expected, (forest, start, end))

    def test_another_count_up_to_forty(self):
        for forest in (mixed_forest(20, 3), mixed_forest(27, 4), mixed_forest(33, 5, 0.9), mixed_forest(40, 6)):
            checked = 0
            for start, end in list(product(range(forest[0]), repeat=2))[::7]:
                way = way_by(forest, start, end) or []
                if prod(len(nearby_by(forest)[p]) for p in way) <= 3000:
                    checked += len(way) > 3
                    expected = order_share_by(forest, start, end)
                    self.assertEqual(order_share(forest, start, end), expected)
            self.assertGreater(checked, 20)

    def test_double_stars(self):
        # Between the two middles the edges aside of one come before the middle edge, those of the other after.
        for left, right in ((0, 0), (1, 0), (3, 5), (19, 19), (0, 38), (7, 31)):
            n = left + right + 2
            edges = [(0, 1)] + [(0, p) for p in range(2, 2 + left)] + [(1, p) for p in range(2 + left, n)]
            expected = part_of(factorial(left) * factorial(right), factorial(left + right + 1))
            self.assertEqual(order_share((n, sorted(edges)), 0, 1), expected)
            self.assertEqual(order_share((n, sorted(edges)), 1, 0), expected)

    def test_sums_to_one(self):
        for forest in sized_forests()[::2]:
            for start in {0, forest[0] // 2, forest[0] - 1}:
                shares = [order_share(forest, start, end) for end in range(forest[0])]
                self.assertEqual(total(shares), 1)

    def test_lowest_terms(self):
        for forest in sized_forests()[::4] + [SPIDER, BROOM, CATERPILLAR]:
            for end in range(forest[0]):
                for top, bottom in (order_share(forest, 0, end), share(forest, 0, end)):
                    self.assertIs(type(top), int)
                    self.assertIs(type(bottom), int)
                    self.assertGreaterEqual(bottom, 1)
                    self.assertEqual(gcd(top, bottom), 1)

    def test_there_and_back(self):
        for forest in sized_forests()[::3] + [SPIDER, BROOM, CATERPILLAR]:
            for start in range(0, forest[0], 3):
                for end in range(1, forest[0], 4):
                    self.assertEqual(order_share(forest, start, end), order_share(forest, end, start))

    def test_paths(self):
        for m in range(1, 40):
            forest = path_forest(m + 1)
            for k in range(1, m):
                expected = as_pair(Fraction(1, factorial(k)) - Fraction(1, factorial(k + 1)))
                self.assertEqual(order_share(forest, 0, k), expected)
                self.assertEqual(order_share(forest, m, m - k), expected)
            self.assertEqual(order_share(forest, 0, m), (1, factorial(m)))
            self.assertEqual(order_share(forest, m, 0), (1, factorial(m)))

    def test_stars(self):
        for d in range(1, 40):
            forest = star_forest(d + 1, d // 2)
            for start, end in ((0, d), (d, 0), (d // 2, 0), (d, d // 2), (1, d), (d - 1, d)):
                if start != end:
                    self.assertEqual(order_share(forest, start, end), (1, d))

    def test_edges_that_do_not_touch_the_path(self):
        for forest in (P, SPIDER, BROOM, CATERPILLAR, mixed_forest(12, 9), mixed_forest(20, 3)):
            for start, end in list(product(range(forest[0]), repeat=2))[::3]:
                way = way_by(forest, start, end)
                touching = [edge for edge in forest[1] if edge[0] in way or edge[1] in way]
                less = order_share((forest[0], touching), start, end)
                self.assertEqual(order_share(forest, start, end), less)
                more = (forest[0] + 2, sorted(forest[1] + [(forest[0], forest[0] + 1)]))
                self.assertEqual(order_share(more, start, end), less)


class Errors(unittest.TestCase):
    def test_positions(self):
        for forest in (A, (1, []), star_forest(40)):
            n = forest[0]
            for position in (-1, -n, n, n + 1, 40, 41, BIG, -BIG):
                for function in (share, order_share):
                    self.assertIs(error_of(function, forest, position, 0), NoPosition)
                    self.assertIs(error_of(function, forest, 0, position), NoPosition)
                    self.assertIs(error_of(function, end=position, start=position, forest=forest), NoPosition)


if __name__ == "__main__":
    unittest.main()
