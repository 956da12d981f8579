import copy
import unittest
from itertools import permutations, product

from onceswapped.arrange import apply_order, is_arrangement, moves, rings
from onceswapped.errors import NoArrangement, NoForest, NoOrder
from onceswapped.forests import trees
from tests.oracle import cross, inverse, read_from, turns_by
from tests.samples import (
    A, BAD_ITEMS, LETTERS, P, all_forests, all_orders, bad_arrangements, bad_orders, error_of,
    items_for, lists_inside, mixed_forest, nested, odd_objects, path_forest, shuffled, sized_forests,
    spelled_out, star_forest)


def satisfies_r1(forest, found):
    """Whether rings are exactly the trees and no two edges cross on their ring."""
    if sorted(sorted(ring) for ring in found) != trees(forest):
        return False
    for ring in found:
        inside = [edge for edge in forest[1] if edge[0] in ring]
        if any(cross(ring, e, f) for e in inside for f in inside):
            return False
    return True


class IsArrangement(unittest.TestCase):
    def test_examples(self):
        self.assertIs(is_arrangement(2, ["a", "a"]), False)
        self.assertIs(is_arrangement(2, ["a", "b"]), True)
        self.assertIs(is_arrangement(5, list("abcde")), True)

    def test_all_sizes(self):
        for n in range(1, 41):
            items = items_for(n)
            self.assertIs(is_arrangement(n, items), True)
            self.assertIs(is_arrangement(n=n, thing=items), True)
            self.assertIs(is_arrangement(thing=items, n=n), True)
            for other in range(1, 41):
                self.assertIs(is_arrangement(other, items), n == other)
            for thing in bad_arrangements(items):
                self.assertIs(is_arrangement(n, thing), False, thing)

    def test_every_letter_and_length(self):
        for letter in LETTERS:
            for length in range(1, 9):
                self.assertIs(is_arrangement(1, [letter * length]), True)
            self.assertIs(is_arrangement(1, [letter * 9]), False)
            self.assertIs(is_arrangement(1, [letter.upper()]), False)
        self.assertIs(is_arrangement(2, ["abcdefgh", "ijklmnop"]), True)
        self.assertIs(is_arrangement(2, ["z", "zz"]), True)

    def test_bad_items(self):
        for thing in BAD_ITEMS:
            self.assertIs(is_arrangement(1, [thing]), False, thing)
            for at in range(3):
                items = ["a", "b", "c"]
                items[at] = thing
                self.assertIs(is_arrangement(3, items), False, thing)

    def test_an_item_twice(self):
        for n in range(2, 41):
            for one, other in ((0, n - 1), (n // 2 - 1, n // 2)):
                items = items_for(n)
                items[one] = items[other]
                self.assertIs(is_arrangement(n, items), False)

    def test_other_objects(self):
        for thing in odd_objects():
            for n in (1, 2, 5, 40):
                self.assertIs(is_arrangement(n, thing), spelled_out(thing, n), thing)
        for kind in (list, tuple):
            for depth in range(1, 26):
                self.assertIs(is_arrangement(1, nested(kind, depth)), False)


class ApplyOrder(unittest.TestCase):
    def test_examples(self):
        found = apply_order(A, list("abcde"), [(0, 1), (1, 2), (1, 3)])
        self.assertEqual(found, ["b", "d", "a", "c", "e"])
        self.assertEqual(apply_order(P, list("abcd"), [(1, 2), (0, 1), (2, 3)]), list("cadb"))
        self.assertEqual(apply_order((1, []), ["a"], []), ["a"])
        self.assertEqual(apply_order((2, [(0, 1)]), ["a", "b"], [(0, 1)]), ["b", "a"])

    def test_swaps_one_after_the_other(self):
        for k, forest in enumerate(sized_forests()):
            items = items_for(forest[0])
            for order in (forest[1], forest[1][::-1], shuffled(forest[1], k)):
                order = list(order)
                place = {p: item for p, item in enumerate(items)}
                for p, q in order:
                    place.update({p: place[q], q: place[p]})
                expected = [place[p] for p in range(forest[0])]
                self.assertEqual(apply_order(forest, items, order), expected)
                self.assertEqual(apply_order(order=order, items=items, forest=forest), expected)

    def test_bad_orders(self):
        for forest in (A, P, star_forest(7), mixed_forest(12, 4, 0.7), path_forest(40)):
            items = items_for(forest[0])
            for order in bad_orders(forest[1]):
                self.assertIs(error_of(apply_order, forest, items, order), NoOrder, order)
                raised = error_of(apply_order, order=order, items=items, forest=forest)
                self.assertIs(raised, NoOrder)

    def test_booleans_in_an_order(self):
        for order in ([(0, True)], [(False, 1)], [(False, True)]):
            self.assertIs(error_of(apply_order, (2, [(0, 1)]), ["a", "b"], order), NoOrder)
        order = [(0, 1), (True, 2), (1, 3)]
        self.assertIs(error_of(apply_order, A, list("abcde"), order), NoOrder)

    def test_an_order_without_edges(self):
        for forest in ((1, []), (40, [])):
            items = items_for(forest[0])
            self.assertEqual(apply_order(forest, items, []), items)
            for order in odd_objects():
                if order != []:
                    self.assertIs(error_of(apply_order, forest, items, order), NoOrder)

    def test_an_edge_missing_or_twice(self):
        for forest in (P, A, star_forest(6), mixed_forest(9, 2)):
            edges = forest[1]
            items = items_for(forest[0])
            for k in range(len(edges)):
                for j in range(len(edges)):
                    wrong = [edges[:k] + edges[k + 1:], edges + [edges[k]], [edges[k]] + edges]
                    if k != j:
                        wrong.append(edges[:k] + [edges[j]] + edges[k + 1:])
                    for order in wrong:
                        self.assertIs(error_of(apply_order, forest, items, order), NoOrder)


class Moves(unittest.TestCase):
    def test_examples(self):
        self.assertEqual(moves(A, list("abcde"), list("bdace")), [2, 0, 3, 1, 4])
        self.assertEqual(moves(P, list("abcd"), list("abcd")), [0, 1, 2, 3])
        self.assertEqual(moves((1, []), ["a"], ["a"]), [0])

    def test_items_end_where_the_moves_say(self):
        for k, forest in enumerate(sized_forests()):
            before = items_for(forest[0])
            after = shuffled(before, k)
            to = moves(forest, before, after)
            self.assertEqual(moves(after=after, before=before, forest=forest), to)
            self.assertEqual([after[to[p]] for p in range(forest[0])], before)
            self.assertEqual(moves(forest, after, before), inverse(to))

    def test_every_small_arrangement(self):
        for after in permutations("abcd"):
            to = moves(P, list("abcd"), list(after))
            self.assertEqual([after[to[p]] for p in range(4)], list("abcd"))


class Rings(unittest.TestCase):
    def test_examples(self):
        self.assertEqual(rings(A, list("abcde"), list("bdace")), [[0, 2, 3, 1], [4]])
        self.assertEqual(rings(P, list("abcd"), list("abcd")), [[0], [1], [2], [3]])
        self.assertEqual(rings(P, list("abcd"), list("dcba")), [[0, 3], [1, 2]])
        self.assertEqual(rings((1, []), ["a"], ["a"]), [[0]])

    def test_rings_follow_the_moves(self):
        for k, forest in enumerate(sized_forests()):
            before = items_for(forest[0])
            self.check(forest, before, shuffled(before, k))
        for after in permutations("abcde"):
            self.check(A, list("abcde"), list(after))

    def check(self, forest, before, after):
        found = rings(forest, before, after)
        to = moves(forest, before, after)
        self.assertEqual(rings(after=after, before=before, forest=forest), found)
        self.assertEqual(sorted(p for ring in found for p in ring), list(range(forest[0])))
        self.assertEqual(found, sorted(found))
        for ring in found:
            self.assertEqual(ring[0], min(ring))
            self.assertEqual([to[p] for p in ring], ring[1:] + ring[:1])


class Results(unittest.TestCase):
    def forests(self):
        return all_forests(1) + all_forests(2) + all_forests(3) + all_forests(4)

    def test_r1_tells_what_can_result(self):
        for forest in self.forests() + all_forests(5)[::7]:
            before = items_for(forest[0])
            outcomes = set(tuple(apply_order(forest, before, order)) for order in all_orders(forest))
            for after in permutations(before):
                allowed = satisfies_r1(forest, rings(forest, before, list(after)))
                self.assertEqual(allowed, after in outcomes, (forest, after))

    def test_r1_holds_for_large_forests(self):
        for k, forest in enumerate(sized_forests()):
            before = items_for(forest[0])
            after = apply_order(forest, before, shuffled(forest[1], k))
            self.assertTrue(satisfies_r1(forest, rings(forest, before, after)))

    def test_r2_reads_the_turns_from_the_ring(self):
        for k, forest in enumerate(sized_forests()):
            before = items_for(forest[0])
            order = shuffled(forest[1], k + 50)
            expected = turns_by(forest, order)
            for ring in rings(forest, before, apply_order(forest, before, order)):
                for p in ring:
                    read = [q for q in read_from(ring, p) if q in expected[p]]
                    self.assertEqual(read, expected[p])

    def test_r6_reversed_order(self):
        for k, forest in enumerate(sized_forests()):
            before = items_for(forest[0])
            order = shuffled(forest[1], k + 90)
            to = moves(forest, before, apply_order(forest, before, order))
            back = moves(forest, before, apply_order(forest, before, order[::-1]))
            self.assertEqual(back, inverse(to))
            after = apply_order(forest, before, order)
            self.assertEqual(apply_order(forest, after, order[::-1]), before)


class Errors(unittest.TestCase):
    FORESTS = (A, None, 5, [], (5, A[1], None), (41, []), (2, [(1, 0)]), (True, []))
    ITEMS = (list("abcde"), tuple("abcde"), "abcde", list("abcd"), list("abcdd"), list("abcdE"), None)
    ORDERS = (A[1], tuple(A[1]), A[1][1:], A[1] + A[1][:1], [(1, 0), (1, 2), (1, 3)], None, 0)
    AFTERS = (list("bdace"), list("bdacf"), list("bdaca"), list("bdac"), tuple("bdace"), None, 7)

    def test_the_first_invalid_argument_decides_apply_order(self):
        for forest, items, order in product(self.FORESTS, self.ITEMS, self.ORDERS):
            expected = NoOrder if order is not self.ORDERS[0] else None
            expected = NoArrangement if items is not self.ITEMS[0] else expected
            expected = NoForest if forest is not A else expected
            self.assertIs(error_of(apply_order, forest, items, order), expected)

    def test_the_first_invalid_argument_decides_moves_and_rings(self):
        for function in (moves, rings):
            for forest, before, after in product(self.FORESTS, self.ITEMS, self.AFTERS):
                fine = before is self.ITEMS[0] and after is self.AFTERS[0]
                expected = None if fine else NoArrangement
                expected = NoForest if forest is not A else expected
                self.assertIs(error_of(function, forest, before, after), expected)

    def test_odd_forests(self):
        items = list("abcde")
        for thing in odd_objects():
            self.assertIs(error_of(apply_order, thing, items, A[1]), NoForest)
            self.assertIs(error_of(apply_order, thing, thing, thing), NoForest)
            for function in (moves, rings):
                self.assertIs(error_of(function, thing, items, items), NoForest)
                self.assertIs(error_of(function, thing, thing, thing), NoForest)

    def test_bad_arrangements(self):
        for forest in (A, (2, [(0, 1)]), (3, []), mixed_forest(40, 8)):
            items = items_for(forest[0])
            for thing in bad_arrangements(items):
                self.assertIs(error_of(apply_order, forest, thing, forest[1]), NoArrangement)
                self.assertIs(error_of(apply_order, forest, thing, None), NoArrangement)
                for function in (moves, rings):
                    self.assertIs(error_of(function, forest, thing, items), NoArrangement)
                    self.assertIs(error_of(function, forest, items, thing), NoArrangement)
                    self.assertIs(error_of(function, forest, thing, thing), NoArrangement)

    def test_after_with_other_items(self):
        for forest in (A, (1, []), path_forest(40)):
            before = items_for(forest[0])
            for at in range(forest[0]):
                after = before[::-1]
                after[at] = "other"
                for function in (moves, rings):
                    self.assertIs(error_of(function, forest, before, after), NoArrangement)
                    self.assertIs(error_of(function, forest, after, before), NoArrangement)


class Independence(unittest.TestCase):
    CASES = (A, P, (1, []), (3, []), star_forest(9), mixed_forest(20, 1, 0.7))

    def arguments(self, forest):
        before = items_for(forest[0])
        return (forest, before, shuffled(before, 3), forest[1][::-1])

    def answers(self, forest, before, after, order):
        found = [apply_order(forest, before, order), apply_order(forest, after, order)]
        found += [moves(forest, before, after), moves(forest, before, before)]
        return found + [rings(forest, before, after), rings(forest, before, before)]

    def test_arguments_stay(self):
        for forest in self.CASES:
            arguments = self.arguments(forest)
            kept = copy.deepcopy(arguments)
            self.answers(*arguments)
            self.assertEqual(arguments, kept)
        for thing in odd_objects():
            kept = repr(thing)
            is_arrangement(2, thing)
            self.assertEqual(repr(thing), kept)

    def test_returned_lists_are_new(self):
        for forest in self.CASES:
            arguments = self.arguments(forest)
            answers = [self.answers(*arguments), self.answers(*arguments)]
            found = lists_inside([arguments, answers])
            self.assertEqual(len(set(id(part) for part in found)), len(found))

    def test_changed_answers_change_nothing(self):
        for forest in self.CASES:
            arguments = self.arguments(forest)
            first = self.answers(*arguments)
            kept = copy.deepcopy(first)
            for part in lists_inside(first):
                part.append("more")
                part.reverse()
            self.assertEqual(self.answers(*arguments), kept)

    def test_changed_arguments_change_no_earlier_answer(self):
        before, after, order = list("abcd"), list("cadb"), [(1, 2), (0, 1), (2, 3)]
        found = [apply_order(P, before, order), moves(P, before, after), rings(P, before, after)]
        kept = copy.deepcopy(found)
        order.reverse()
        before.reverse()
        self.assertEqual(found, kept)
        self.assertEqual(apply_order(P, before, order), list("cadb"))
        self.assertEqual(moves(P, before, after), [2, 0, 3, 1])

    def test_the_same_list_twice(self):
        items = list("abcde")
        self.assertEqual(moves(A, items, items), [0, 1, 2, 3, 4])
        self.assertEqual(rings(A, items, items), [[0], [1], [2], [3], [4]])
        self.assertEqual(apply_order(A, items, A[1]), list("bdace"))


if __name__ == "__main__":
    unittest.main()
