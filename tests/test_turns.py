import unittest
from itertools import product

from onceswapped.arrange import apply_order
from onceswapped.errors import NoArrangement, NoForest, NoOrder, NoTurns
from onceswapped.forests import path
from onceswapped.turns import after_turns, is_turns, order_of_turns, turns_of_order
from tests.oracle import after_by, leads, needed, some_order, turns_by
from tests.samples import (
    A, BIG, P, all_forests, bad_arrangements, bad_orders, error_of, items_for, mixed_forest, nested,
    odd_objects, path_forest, shuffled, sized_forests, star_forest)


def some_orders(forest, seed):
    edges = forest[1]
    return [list(edges), edges[::-1], shuffled(edges, seed), shuffled(edges, seed + 1000)]


def with_row(turns, at, row):
    return turns[:at] + [row] + turns[at + 1:]


def spoiled_rows(n, row, at):
    """What cannot stand in place of the turn of a position."""
    others = [p for p in range(n) if p not in row]
    strange = [-1, n, n + 1, BIG, -BIG, None, "", "a", [], (), [at], (at,), True, False] + others
    found = [row + [thing] for thing in strange + row]
    found += [[thing] + row for thing in strange]
    found += [tuple(row), None, 0, True, "", str(row), [row], (row,), row + row if row else [[]]]
    for k, entry in enumerate(row):
        found.append(row[:k] + row[k + 1:])
        wrong = strange + [str(entry), [entry], (entry,)] + [p for p in row if p != entry]
        found += [row[:k] + [thing] + row[k + 1:] for thing in wrong]
    return found


def spoiled_turns(forest, turns):
    """Turns with one change each, none of which leaves turns of the forest."""
    n = forest[0]
    found = [tuple(turns), turns[:-1], turns[1:], turns + [[]], [[]] + turns, turns + turns,
             turns + turns[-1:], [turns], (turns,), None, str(turns), [tuple(row) for row in turns]]
    for at in sorted({0, n // 2, n - 1}):
        found += [with_row(turns, at, row) for row in spoiled_rows(n, turns[at], at)]
        found += [turns[:at] + turns[at + 1:], turns[:at] + [[]] + turns[at:]]
    for at in range(n - 1):
        if sorted(turns[at]) != sorted(turns[at + 1]):
            found.append(turns[:at] + [turns[at + 1], turns[at]] + turns[at + 2:])
    return found


class IsTurns(unittest.TestCase):
    def test_examples(self):
        self.assertIs(is_turns(P, [[1], [0, 2], [1, 3], [2]]), True)
        self.assertIs(is_turns(P, [[1], [2, 0], [3, 1], [2]]), True)
        self.assertIs(is_turns(P, [[1], [0, 2], [1, 3], [3]]), False)
        self.assertIs(is_turns(A, [[1], [3, 0, 2], [1], [1], []]), True)
        self.assertIs(is_turns((1, []), [[]]), True)
        self.assertIs(is_turns((1, []), []), False)
        self.assertIs(is_turns((3, []), [[], [], []]), True)

    def test_all_sizes(self):
        for k, forest in enumerate(sized_forests()):
            for order in some_orders(forest, k):
                turns = turns_by(forest, order)
                self.assertIs(is_turns(forest, turns), True)
                self.assertIs(is_turns(thing=turns, forest=forest), True)

    def test_rows_need_not_be_those_of_an_order_that_was_seen(self):
        for k, forest in enumerate(sized_forests()):
            turns = [shuffled(row, k + p) for p, row in enumerate(turns_by(forest, forest[1]))]
            self.assertIs(is_turns(forest, turns), True)

    def test_one_change(self):
        for k, forest in enumerate(sized_forests()):
            turns = turns_by(forest, shuffled(forest[1], k))
            for thing in spoiled_turns(forest, turns):
                self.assertIs(is_turns(forest, thing), False, (forest, thing))

    def test_booleans(self):
        self.assertIs(is_turns((2, [(0, 1)]), [[1], [0]]), True)
        for thing in ([[True], [0]], [[1], [False]], [[True], [False]]):
            self.assertIs(is_turns((2, [(0, 1)]), thing), False)
        self.assertIs(is_turns(P, [[1], [False, 2], [1, 3], [2]]), False)
        self.assertIs(is_turns(P, [[1], [2, 0], [3, True], [2]]), False)

    def test_all_short_rows_of_small_forests(self):
        for n in (1, 2, 3):
            rows = [list(row) for size in range(3) for row in product(range(n), repeat=size)]
            for forest in all_forests(n):
                nearby = [sorted(row) for row in turns_by(forest, forest[1])]
                for turns in product(rows, repeat=n):
                    expected = [sorted(row) for row in turns] == nearby
                    self.assertIs(is_turns(forest, list(turns)), expected, turns)

    def test_the_same_list_as_two_rows(self):
        row = [1]
        self.assertIs(is_turns((3, [(0, 1), (1, 2)]), [row, [0, 2], row]), True)

    def test_other_objects(self):
        for thing in odd_objects():
            for forest in (A, P, (2, []), (2, [(0, 1)]), mixed_forest(40, 2), (40, [])):
                self.assertIs(is_turns(forest, thing), False, thing)
            self.assertIs(is_turns((1, []), thing), thing == [[]], thing)
        for kind in (list, tuple):
            for depth in range(1, 26):
                expected = kind is list and depth == 2
                self.assertIs(is_turns((1, []), nested(kind, depth)), expected)
                self.assertIs(is_turns((2, []), [nested(kind, depth), []]), kind is list and depth == 1)
                self.assertIs(is_turns((2, [(0, 1)]), [[1], [nested(kind, depth)]]), False)

    def test_invalid_forests(self):
        for thing in odd_objects():
            self.assertIs(error_of(is_turns, thing, [[1], [0]]), NoForest)
            self.assertIs(error_of(is_turns, thing, thing), NoForest)
            self.assertIs(error_of(is_turns, thing=None, forest=thing), NoForest)


class TurnsOfOrder(unittest.TestCase):
    def test_examples(self):
        self.assertEqual(turns_of_order(P, [(1, 2), (0, 1), (2, 3)]), [[1], [2, 0], [1, 3], [2]])
        self.assertEqual(turns_of_order(A, [(1, 3), (0, 1), (1, 2)]), [[1], [3, 0, 2], [1], [1], []])
        self.assertEqual(turns_of_order((1, []), []), [[]])
        self.assertEqual(turns_of_order((3, []), []), [[], [], []])

    def test_all_sizes(self):
        for k, forest in enumerate(sized_forests()):
            for order in some_orders(forest, k):
                turns = turns_by(forest, order)
                self.assertEqual(turns_of_order(forest, order), turns)
                self.assertEqual(turns_of_order(order=order, forest=forest), turns)

    def test_r6_the_reversed_order_has_the_reversed_turns(self):
        for k, forest in enumerate(sized_forests()):
            for order in some_orders(forest, k + 7):
                turns = turns_of_order(forest, order)
                self.assertEqual(turns_of_order(forest, order[::-1]), [row[::-1] for row in turns])

    def test_bad_orders(self):
        for forest in (A, P, star_forest(7), mixed_forest(12, 4, 0.7), path_forest(40)):
            for order in bad_orders(forest[1]):
                self.assertIs(error_of(turns_of_order, forest, order), NoOrder, order)
        for order in ([(0, True)], [(False, 1)], [], [(0, 1), (0, 1)]):
            self.assertIs(error_of(turns_of_order, (2, [(0, 1)]), order), NoOrder)


class AfterTurns(unittest.TestCase):
    def test_examples(self):
        self.assertEqual(after_turns(P, list("abcd"), [[1], [2, 0], [1, 3], [2]]), list("cadb"))
        self.assertEqual(after_turns((1, []), ["a"], [[]]), ["a"])
        self.assertEqual(after_turns((2, [(0, 1)]), ["a", "b"], [[1], [0]]), ["b", "a"])

    def test_all_sizes(self):
        for k, forest in enumerate(sized_forests()):
            items = items_for(forest[0])
            for order in some_orders(forest, k + 20):
                turns = turns_by(forest, order)
                expected = after_by(items, order)
                self.assertEqual(after_turns(forest, items, turns), expected)
                self.assertEqual(after_turns(turns=turns, items=items, forest=forest), expected)

    def test_r3_every_order_with_these_turns_gives_the_same(self):
        for k, forest in enumerate(sized_forests()):
            items = items_for(forest[0])
            turns = turns_by(forest, shuffled(forest[1], k + 30))
            after = after_turns(forest, items, turns)
            for seed in range(3):
                self.assertEqual(apply_order(forest, items, some_order(turns, seed)), after)

    def test_r4_where_each_item_ends(self):
        for k, forest in enumerate(sized_forests()[3::11]):
            items = items_for(forest[0])
            turns = turns_by(forest, shuffled(forest[1], k + 35))
            after = after_turns(forest, items, turns)
            for start, end in product(range(forest[0]), repeat=2):
                way = path(forest, start, end)
                if way is not None and start != end:
                    self.assertEqual(after[end] == items[start], leads(turns, way))

    def test_r6_reversed_turns_lead_back(self):
        for k, forest in enumerate(sized_forests()):
            items = items_for(forest[0])
            turns = turns_by(forest, shuffled(forest[1], k + 40))
            after = after_turns(forest, items, turns)
            self.assertEqual(after_turns(forest, after, [row[::-1] for row in turns]), items)

    def test_wrong_arguments(self):
        for forest in (A, P, star_forest(6), mixed_forest(20, 3, 0.8), (4, [])):
            items = items_for(forest[0])
            turns = turns_by(forest, forest[1])
            for thing in spoiled_turns(forest, turns) + odd_objects():
                self.assertIs(error_of(after_turns, forest, items, thing), NoTurns, thing)
            for thing in bad_arrangements(items):
                self.assertIs(error_of(after_turns, forest, thing, turns), NoArrangement, thing)


class OrderOfTurns(unittest.TestCase):
    def test_examples(self):
        self.assertEqual(order_of_turns(P, [[1], [2, 0], [1, 3], [2]]), [(1, 2), (0, 1), (2, 3)])
        self.assertEqual(order_of_turns((1, []), [[]]), [])
        self.assertEqual(order_of_turns((40, []), [[] for _ in range(40)]), [])
        forest = (6, [(0, 5), (1, 4), (2, 3)])
        self.assertEqual(order_of_turns(forest, turns_by(forest, forest[1])), forest[1])

    def test_all_sizes(self):
        for k, forest in enumerate(sized_forests()):
            for order in some_orders(forest, k + 60):
                self.check(forest, turns_by(forest, order))

    def check(self, forest, turns):
        order = order_of_turns(forest, turns)
        self.assertEqual(order_of_turns(turns=turns, forest=forest), order)
        self.assertEqual(sorted(order), forest[1])
        self.assertEqual(turns_by(forest, order), turns)
        # No lesser list: whichever lesser edge is left must wait for another one that is left.
        for k, edge in enumerate(order):
            for lesser in order[k + 1:]:
                if lesser < edge:
                    self.assertTrue(needed(turns, lesser) - set(order[:k]), (forest, turns))

    def test_it_is_no_greater_than_other_orders(self):
        for k, forest in enumerate(sized_forests()):
            turns = turns_by(forest, shuffled(forest[1], k + 70))
            least = order_of_turns(forest, turns)
            for seed in range(5):
                self.assertLessEqual(least, some_order(turns, seed))

    def test_paths(self):
        for n in range(2, 41):
            forest = path_forest(n)
            upwards = turns_by(forest, forest[1])
            self.assertEqual(order_of_turns(forest, upwards), forest[1])
            downwards = turns_by(forest, forest[1][::-1])
            self.assertEqual(order_of_turns(forest, downwards), forest[1][::-1])

    def test_every_other_edge_of_a_path_first(self):
        forest = path_forest(7)
        turns = turns_by(forest, [(1, 2), (3, 4), (5, 6), (0, 1), (2, 3), (4, 5)])
        expected = [(1, 2), (0, 1), (3, 4), (2, 3), (5, 6), (4, 5)]
        self.assertEqual(order_of_turns(forest, turns), expected)

    def test_stars_have_one_order(self):
        for n in range(2, 41):
            forest = star_forest(n, n // 3)
            order = shuffled(forest[1], n)
            self.assertEqual(order_of_turns(forest, turns_by(forest, order)), order)

    def test_several_trees(self):
        forest = (7, [(0, 3), (1, 4), (1, 5), (2, 6)])
        turns = turns_by(forest, [(2, 6), (1, 5), (1, 4), (0, 3)])
        self.assertEqual(order_of_turns(forest, turns), [(0, 3), (1, 5), (1, 4), (2, 6)])

    def test_wrong_turns(self):
        for forest in (A, P, star_forest(6), mixed_forest(20, 3, 0.8), (4, [])):
            for thing in spoiled_turns(forest, turns_by(forest, forest[1])) + odd_objects():
                self.assertIs(error_of(order_of_turns, forest, thing), NoTurns, thing)


if __name__ == "__main__":
    unittest.main()
