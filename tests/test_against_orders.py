"""Small forests: what the functions answer against what applying every order shows."""

import unittest
from itertools import permutations, product
from math import factorial, prod

from onceswapped.errors import NotReached
from onceswapped.forests import path
from onceswapped.judge import can_be, reason, shows, turns_of
from onceswapped.precede import (
    exchanged, first_edges, last_edges, least_order, left_out, must_precede, order_fits,
    orders_counted, precedes)
from onceswapped.turns import after_turns, is_turns, order_of_turns, turns_of_order
from tests.oracle import (
    after_by, certificates, first_certificate, leads, moves_by, pairs_by, read_from, results,
    rings_by, shown, turns_by)
from tests.samples import all_forests, items_for, mixed_forest

SMALL = all_forests(1) + all_forests(2) + all_forests(3) + all_forests(4)
MIDDLE = all_forests(5)[::4]
LARGE = all_forests(6)[::120] + [mixed_forest(6, seed) for seed in range(4)]


def reason_raised(test, function, *arguments):
    """The reason of the NotReached that a call must raise."""
    with test.assertRaises(NotReached) as caught:
        function(*arguments)
    test.assertIs(type(caught.exception), NotReached)
    return caught.exception.reason


class Reached(unittest.TestCase):
    def test_every_outcome(self):
        for forest in SMALL + MIDDLE + LARGE:
            before = items_for(forest[0])
            found = results(forest, before)
            for after, orders in found.items():
                self.check_turns(forest, before, list(after), orders)
                self.check_orders(forest, before, list(after), orders)
                self.check_edges(forest, before, list(after), orders)
                self.check_pairs(forest, before, list(after), orders)

    def check_turns(self, forest, before, after, orders):
        self.assertIs(can_be(forest, before, after), True)
        self.assertIsNone(reason(forest, before, after))
        turns = turns_of(forest, before, after)
        for order in orders:
            self.assertEqual(turns_by(forest, order), turns)
            self.assertEqual(turns_of_order(forest, order), turns)
        self.assertIs(is_turns(forest, turns), True)
        self.assertEqual(after_turns(forest, before, turns), after)
        self.assertEqual(order_of_turns(forest, turns), min(orders))

    def check_orders(self, forest, before, after, orders):
        self.assertEqual(least_order(forest, before, after), min(orders))
        self.assertEqual(orders_counted(forest, before, after), len(orders))
        firsts = sorted(set(order[0] for order in orders if order))
        lasts = sorted(set(order[-1] for order in orders if order))
        self.assertEqual(first_edges(forest, before, after), firsts)
        self.assertEqual(last_edges(forest, before, after), lasts)
        for order in permutations(forest[1]):
            fits = list(order) in orders
            self.assertIs(order_fits(forest, before, after, list(order)), fits)

    def check_edges(self, forest, before, after, orders):
        for edge in forest[1]:
            for order in orders:
                at = order.index(edge)
                there = after_by(before, order[:at])
                pair = tuple(sorted(there[p] for p in edge))
                self.assertEqual(exchanged(forest, before, after, edge), pair)
                less = after_by(before, order[:at] + order[at + 1:])
                self.assertEqual(left_out(forest, before, after, edge), less)

    def check_pairs(self, forest, before, after, orders):
        always = set()
        for one, other in product(forest[1], repeat=2):
            comes = all(order.index(one) < order.index(other) for order in orders)
            self.assertIs(precedes(forest, before, after, one, other), comes)
            if comes:
                always.add((one, other))
        pairs = must_precede(forest, before, after)
        self.assertEqual(pairs, pairs_by(turns_by(forest, orders[0])))
        # The pairs are those that come before one another with no edge always between them.
        between = set((e, f) for e, f in always
                      if any((e, g) in always and (g, f) in always for g in forest[1]))
        self.assertEqual(pairs, sorted(always - between))


class NotReachedAtAll(unittest.TestCase):
    def test_every_other_arrangement(self):
        for forest in SMALL + MIDDLE + LARGE[::3]:
            before = items_for(forest[0])
            outcomes = set(results(forest, before))
            for after in permutations(before):
                self.assertEqual(first_certificate(forest, before, after) is None, after in outcomes)
                if after not in outcomes:
                    self.check_reason(forest, before, list(after))
                    self.check_certificates(forest, before, list(after))

    def check_reason(self, forest, before, after):
        expected = first_certificate(forest, before, after)
        self.assertEqual(reason(forest, before, after), expected)
        self.assertIs(can_be(forest, before, after), False)
        self.assertIs(shows(forest, before, after, expected), True)
        self.assertEqual(reason_raised(self, turns_of, forest, before, after), expected)

    def check_certificates(self, forest, before, after):
        true = shown(forest, before, after)
        for thing in true:
            self.assertIs(shows(forest, before, after, thing), True, thing)
        for thing in self.candidates(forest, before, after):
            self.assertIs(shows(forest, before, after, thing), thing in true, thing)

    def candidates(self, forest, before, after):
        found = [("moved", p) for p in range(-1, forest[0] + 1)]
        for ring in rings_by(moves_by(before, after)):
            found += [("ring", read_from(ring, p)) for p in ring]
            found += [("ring", ring[::-1]), ("ring", ring[1:]), ("ring", ring + ring[:1])]
        return found + [("cross", e, f) for e in forest[1] for f in forest[1]]

    def test_precede_raises_the_reason(self):
        for forest in SMALL + MIDDLE[::10]:
            before = items_for(forest[0])
            outcomes = set(results(forest, before))
            for after in permutations(before):
                if after not in outcomes:
                    self.check_precede(forest, before, list(after))

    def check_precede(self, forest, before, after):
        expected = first_certificate(forest, before, after)
        for function in (must_precede, first_edges, last_edges, least_order, orders_counted):
            self.assertEqual(reason_raised(self, function, forest, before, after), expected)
        for edge in forest[1]:
            for function in (exchanged, left_out):
                found = reason_raised(self, function, forest, before, after, edge)
                self.assertEqual(found, expected)
            found = reason_raised(self, precedes, forest, before, after, edge, forest[1][0])
            self.assertEqual(found, expected)
        for order in permutations(forest[1]):
            self.assertIs(order_fits(forest, before, after, list(order)), False)


class EveryKindOfCertificate(unittest.TestCase):
    def test_all_three_kinds_occur_as_reasons(self):
        counts = {"moved": 0, "ring": 0, "cross": 0, "only cross": 0}
        for forest in SMALL:
            before = items_for(forest[0])
            for after in permutations(before):
                why = reason(forest, before, list(after))
                if why is not None:
                    counts[why[0]] += 1
                moved, short, crossing = certificates(forest, before, after)
                counts["only cross"] += bool(crossing and not moved and not short)
        self.assertTrue(all(counts.values()), counts)
        self.assertEqual(counts["cross"], counts["only cross"])


class Results(unittest.TestCase):
    def test_r3_turns_and_outcomes_belong_together(self):
        for forest in SMALL + MIDDLE + LARGE[::3]:
            before = items_for(forest[0])
            found = results(forest, before)
            nearby = [[p + q - at for p, q in forest[1] if at in (p, q)] for at in range(forest[0])]
            choices = [list(map(list, permutations(row))) for row in nearby]
            reached = []
            for rows in product(*choices):
                turns = [list(row) for row in rows]
                after = after_turns(forest, before, turns)
                reached.append(tuple(after))
                self.assertEqual(turns_of(forest, before, after), turns)
                orders = [o for o in permutations(forest[1]) if turns_by(forest, o) == turns]
                self.assertEqual([list(o) for o in orders], found[tuple(after)])
            self.assertEqual(len(set(reached)), len(reached))
            self.assertEqual(set(reached), set(found))
            self.assertEqual(len(reached), prod(factorial(len(row)) for row in nearby))

    def test_r4_where_an_item_ends(self):
        for forest in SMALL + MIDDLE:
            before = items_for(forest[0])
            for after in results(forest, before):
                turns = turns_of(forest, before, list(after))
                for start, end in product(range(forest[0]), repeat=2):
                    way = path(forest, start, end)
                    if way is not None and start != end:
                        self.assertEqual(after[end] == before[start], leads(turns, way))


if __name__ == "__main__":
    unittest.main()
