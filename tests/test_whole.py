"""The functions of all files together: they agree with one another, whatever the names are."""

import unittest
from fractions import Fraction
from itertools import permutations
from math import factorial

from onceswapped.arrange import apply_order, moves, rings
from onceswapped.forests import degrees, trees
from onceswapped.judge import can_be, reason, turns_of
from onceswapped.live import Tracker
from onceswapped.outcomes import outcome, outcome_count, outcome_number
from onceswapped.partial import certain, conflict, demands, fits, fitting_count, least_fitting, share_given
from onceswapped.precede import least_order, order_fits, orders_counted
from onceswapped.series import series_after, series_count, series_plan, series_share
from onceswapped.session import session
from onceswapped.shares import order_share, share, share_table
from onceswapped.texts import (
    read_edges, read_items, read_seen, read_turns, write_edges, write_items, write_seen, write_turns)
from onceswapped.turns import after_turns, is_turns, turns_of_order
from tests.observing import masked, some_observations
from tests.oracle import cross, edge_of, inverse, leads, read_from
from tests.partial_oracle import count_by_turns, nearby_by, part_of, way_by
from tests.samples import (
    A, P, all_forests, all_orders, items_for, mixed_forest, path_forest, shuffled, sized_forests,
    star_forest)


def drawn(forest, seed):
    """Items, an order and the arrangement after it."""
    before = items_for(forest[0])
    order = shuffled(forest[1], seed)
    return before, order, apply_order(forest, before, order)


class Agreement(unittest.TestCase):
    def test_all_sizes(self):
        for k, forest in enumerate(sized_forests()):
            before, order, after = drawn(forest, k)
            turns = turns_of_order(forest, order)
            self.assertEqual(after_turns(forest, before, turns), after)
            self.assertIs(can_be(forest, before, after), True)
            self.assertEqual(turns_of(forest, before, after), turns)
            least = least_order(forest, before, after)
            self.assertEqual(apply_order(forest, before, least), after)
            self.assertEqual(turns_of_order(forest, least), turns)
            number = outcome_number(forest, before, after)
            self.assertEqual(outcome(forest, before, number), after)
            self.assertIs(order_fits(forest, before, after, order), True)
            self.check_tracker(forest, before, after)
            self.check_texts(forest, before, after, turns)
            if k % 3 == 0:
                self.check_partial(forest, before, after, k)

    def check_tracker(self, forest, before, after):
        tracker = Tracker(before)
        tracker.bundle(forest[1])
        self.assertEqual(tracker.possible(), outcome_count(forest))
        self.assertEqual(tracker.known(), certain(forest, before, [None] * forest[0]))
        for start in {0, forest[0] - 1}:
            shares = [(end, share(forest, start, end)) for end in range(forest[0])]
            expected = [(end, fraction) for end, fraction in shares if fraction != (0, 1)]
            self.assertEqual(tracker.where(before[start]), expected)
        tracker.see_all(after)
        self.assertEqual(tracker.known(), after)

    def check_texts(self, forest, before, after, turns):
        self.assertEqual(read_items(write_items(after)), after)
        self.assertEqual(read_seen(write_seen(after)), after)
        self.assertEqual(read_seen(write_seen([None] + after[1:])), [None] + after[1:])
        self.assertEqual(read_edges(write_edges(forest[1])), forest[1])
        self.assertEqual(read_turns(write_turns(turns)), turns)
        rows = ["items " + write_items(before), "possible", "known"]
        if forest[1]:
            rows.insert(1, "bundle " + write_edges(forest[1]))
        rows += ["all " + write_items(after), "known"]
        answers = session("\n".join(rows)).split("\n")
        seen = certain(forest, before, [None] * forest[0])
        expected = [str(outcome_count(forest)), write_seen(seen), "ok", write_items(after)]
        self.assertEqual(answers[-4:], expected)

    def check_partial(self, forest, before, after, seed):
        seen = masked(after, shuffled(range(forest[0]), seed)[:forest[0] // 2])
        self.assertIs(fits(forest, before, seen), True)
        least = least_fitting(forest, before, seen)
        self.assertLessEqual(outcome_number(forest, before, least), outcome_number(forest, before, after))
        tracker = Tracker(before)
        tracker.bundle(forest[1])
        for position, item in enumerate(seen):
            if item is not None:
                tracker.see(position, item)
        self.assertEqual(tracker.possible(), fitting_count(forest, before, seen))
        self.assertEqual(tracker.known(), certain(forest, before, seen))
        free = [position for position in range(forest[0]) if seen[position] is None]
        for position in free[:1]:
            shares = [(item, share_given(forest, before, seen, item, position)) for item in sorted(before)]
            expected = [(item, fraction) for item, fraction in shares if fraction != (0, 1)]
            self.assertEqual(tracker.may_hold(position), expected)
        self.assertIsNone(tracker.see_all(least))

    def test_a_tracker_and_a_series(self):
        for seed in range(24):
            n = seed % 7 + 2
            forests = [mixed_forest(n, seed + 40 * k, 0.6) for k in range(seed % 3 + 1)]
            before = items_for(n)
            tracker = Tracker(before)
            for forest in forests:
                tracker.bundle(forest[1])
            found = series_after(forests, before)
            self.assertEqual(tracker.possible(), len(found))
            plans = sum(ways for _, ways in found)
            for start in range(n):
                expected = [(end, series_share(forests, start, end)) for end in range(n)]
                expected = [(end, fraction) for end, fraction in expected if fraction != (0, 1)]
                self.assertEqual(tracker.where(before[start]), expected)
            for after, ways in found[:5]:
                self.assertEqual(series_count(forests, before, after), ways)
                items = list(before)
                for forest, number in zip(forests, series_plan(forests, before, after)):
                    items = outcome(forest, items, number)
                self.assertEqual(items, after)
                self.assertIsNone(tracker.twin().see_all(after))
                here = sum(more for other, more in found if other[0] == after[0])
                self.assertEqual(dict(tracker.may_hold(0))[after[0]], part_of(here, plans))


class Results(unittest.TestCase):
    FORESTS = sized_forests()[::9] + [A, P, star_forest(40), mixed_forest(40, 9)]

    def outcomes(self):
        for k, forest in enumerate(self.FORESTS):
            before = items_for(forest[0])
            many = outcome_count(forest)
            for number in sorted({0, many - 1, many // 2, many * (k + 1) // (k + 3)}):
                if number < many:
                    yield forest, before, number, outcome(forest, before, number)

    def test_r1_one_ring_for_each_tree_and_none_cross(self):
        for forest, before, _, after in self.outcomes():
            found = rings(forest, before, after)
            self.assertEqual(sorted(sorted(ring) for ring in found), trees(forest))
            for ring in found:
                inside = [edge for edge in forest[1] if edge[0] in ring]
                self.assertFalse(any(cross(ring, e, f) for e in inside for f in inside))
            for position, degree in enumerate(degrees(forest)):
                if degree == 0:
                    self.assertEqual(after[position], before[position])

    def test_r1_all_arrangements_of_a_few_items(self):
        for forest in all_forests(4) + all_forests(5)[::40]:
            before = items_for(forest[0])
            numbers = [outcome_number(forest, before, list(after)) for after in permutations(before)
                       if can_be(forest, before, list(after))]
            self.assertEqual(sorted(numbers), list(range(outcome_count(forest))))
            for after in permutations(before):
                possible = reason(forest, before, list(after)) is None
                self.assertIs(conflict(forest, before, list(after)) is None, possible)

    def test_r2_turns_are_read_from_the_ring(self):
        for forest, before, number, after in self.outcomes():
            turns = turns_of(forest, before, after)
            nearby = nearby_by(forest)
            for ring in rings(forest, before, after):
                for position in ring:
                    around = [p for p in read_from(ring, position) if p in nearby[position]]
                    self.assertEqual(turns[position], around)

    def test_r3_one_outcome_for_each_choice_of_turns(self):
        for forest in (A, P, star_forest(6), mixed_forest(8, 1), mixed_forest(9, 4, 0.7)):
            before = items_for(forest[0])
            found = [outcome(forest, before, number) for number in range(outcome_count(forest))]
            self.assertEqual(len(set(map(tuple, found))), len(found))
            orders = sum(orders_counted(forest, before, after) for after in found)
            self.assertEqual(orders, factorial(len(forest[1])))
            if len(forest[1]) <= 5:
                for order in all_orders(forest):
                    self.assertIn(apply_order(forest, before, order), found)

    def test_r4_where_an_item_ends(self):
        for forest, before, _, after in self.outcomes():
            turns = turns_of(forest, before, after)
            for start in range(0, forest[0], 3):
                end = after.index(before[start])
                way = way_by(forest, start, end)
                self.assertTrue(len(way) == 1 or leads(turns, way))
                self.assertEqual(Fraction(*share(forest, start, end)) > 0, True)
                self.assertEqual(Fraction(*order_share(forest, start, end)) > 0, True)

    def test_r5_the_number_of_fitting_outcomes_is_a_product(self):
        for k, forest in enumerate((P, A, mixed_forest(9, 2), mixed_forest(14, 5, 0.8), path_forest(30))):
            before, found = some_observations(forest, k + 5)
            for seen in found:
                self.assertEqual(fitting_count(forest, before, seen), count_by_turns(forest, before, seen))

    def test_r6_the_way_back(self):
        for forest, before, _, after in self.outcomes():
            turns = turns_of(forest, before, after)
            back = [turn[::-1] for turn in turns]
            self.assertIs(is_turns(forest, back), True)
            self.assertEqual(turns_of(forest, after, before), back)
            self.assertEqual(after_turns(forest, after, back), before)
            self.assertEqual(moves(forest, after, before), inverse(moves(forest, before, after)))
            self.assertEqual(orders_counted(forest, after, before), orders_counted(forest, before, after))
            reflected = outcome(forest, after, outcome_number(forest, after, before))
            self.assertEqual(reflected, before)


class Renamed:
    """Positions and items under other names."""

    def __init__(self, n, seed):
        self.names = shuffled(range(n), seed)
        self.words = dict(zip(items_for(n), shuffled([item[0] + "x" + item[1:7] for item in items_for(n)], seed)))
        assert len(set(self.words.values())) == n

    def forest(self, forest):
        return (forest[0], sorted(edge_of(self.names[p], self.names[q]) for p, q in forest[1]))

    def items(self, items):
        renamed = [None] * len(items)
        for position, item in enumerate(items):
            renamed[self.names[position]] = item and self.words[item]
        return renamed

    def turns(self, turns):
        renamed = [None] * len(turns)
        for position, turn in enumerate(turns):
            renamed[self.names[position]] = [self.names[p] for p in turn]
        return renamed


class Names(unittest.TestCase):
    def test_outcomes_and_shares(self):
        for k, forest in enumerate(sized_forests()[::5]):
            before, _, after = drawn(forest, k)
            new = Renamed(forest[0], k)
            other, start, end = new.forest(forest), new.items(before), new.items(after)
            self.assertEqual(outcome_count(other), outcome_count(forest))
            self.assertIs(can_be(other, start, end), True)
            turns = turns_of(forest, before, after)
            self.assertEqual(turns_of(other, start, end), new.turns(turns))
            self.assertEqual(after_turns(other, start, new.turns(turns)), end)
            self.assertEqual(orders_counted(other, start, end), orders_counted(forest, before, after))
            table, renamed = share_table(forest), share_table(other)
            for v in range(0, forest[0], 4):
                for u in range(1, forest[0], 5):
                    self.assertEqual(renamed[new.names[v]][new.names[u]], table[v][u])
                    found = order_share(other, new.names[v], new.names[u])
                    self.assertEqual(found, order_share(forest, v, u))

    def test_partial(self):
        for k, forest in enumerate(sized_forests()[::7]):
            before, found = some_observations(forest, k)
            new = Renamed(forest[0], k)
            other, start = new.forest(forest), new.items(before)
            for seen in found[::2]:
                renamed = new.items(seen)
                self.assertIs(fits(other, start, renamed), fits(forest, before, seen))
                self.assertEqual(fitting_count(other, start, renamed), fitting_count(forest, before, seen))
                if not fits(forest, before, seen):
                    moved = conflict(forest, before, seen)[0] == "moved"
                    self.assertEqual(conflict(other, start, renamed)[0] == "moved", moved)
                    continue
                self.assertEqual(certain(other, start, renamed), new.items(certain(forest, before, seen)))
                pairs = demands(forest, before, seen)
                for position, row in enumerate(demands(other, start, renamed)):
                    old = pairs[new.names.index(position)]
                    self.assertEqual(row, sorted((new.names[x], new.names[y]) for x, y in old))
                item = before[k % forest[0]]
                share_then = share_given(forest, before, seen, item, forest[0] // 2)
                share_now = share_given(other, start, renamed, new.words[item], new.names[forest[0] // 2])
                self.assertEqual(share_now, share_then)

    def test_series(self):
        for seed in range(12):
            n = seed % 5 + 3
            forests = [mixed_forest(n, seed + 30 * k, 0.7) for k in range(3)]
            before = items_for(n)
            new = Renamed(n, seed)
            others = [new.forest(forest) for forest in forests]
            found = sorted((new.items(after), ways) for after, ways in series_after(forests, before))
            self.assertEqual(series_after(others, new.items(before)), found)
            self.assertEqual(series_share(others, new.names[0], new.names[n - 1]), series_share(forests, 0, n - 1))

    def test_trackers(self):
        for seed in range(24):
            n = seed % 8 + 2 if seed < 16 else 40
            new = Renamed(n, seed)
            before = items_for(n)
            one, other = Tracker(before), Tracker(new.items(before))
            for k in range(3 if n < 40 else 1):
                edges = mixed_forest(n, seed + 30 * k, 0.5)[1]
                one.bundle(edges)
                other.bundle(new.forest((n, edges))[1])
            one.see(0, one.may_hold(0)[-1][0])
            other.see(new.names[0], new.words[one.known()[0]])
            self.assertEqual(other.possible(), one.possible())
            self.assertEqual(other.known(), new.items(one.known()))
            for position in range(n):
                found = sorted((new.words[item], fraction) for item, fraction in one.may_hold(position))
                self.assertEqual(other.may_hold(new.names[position]), found)
            for item in before:
                found = sorted((new.names[position], fraction) for position, fraction in one.where(item))
                self.assertEqual(other.where(new.words[item]), found)


if __name__ == "__main__":
    unittest.main()
