import unittest
from collections import Counter
from fractions import Fraction
from itertools import product
from math import factorial, prod

from onceswapped import series
from onceswapped.errors import NoArrangement, NoForest, NoPosition, TooMany
from onceswapped.outcomes import outcome, outcome_count
from onceswapped.series import series_after, series_count, series_plan, series_share
from onceswapped.shares import share
from tests.oracle import after_by
from tests.partial_oracle import as_pair, nearby_by
from tests.rules import ABCDE, StaysApart, check_errors
from tests.samples import (
    A, BIG, P, all_forests, bad_arrangements, error_of, items_for, mixed_forest, odd_objects,
    path_forest, shuffled, star_forest)

BOTH = [(2, [(0, 1)]), (2, [(0, 1)])]
STAR = (8, [(0, 1), (0, 2), (0, 3), (0, 4), (0, 5), (0, 6), (0, 7)])
# 4,608 is the greatest product of factorials up to 5,000, and 5,040 the least one above.
BELOW = [(40, [(0, p) for p in range(1, 5)]), (40, [(p, 30) for p in range(4)]), (40, [(p, p + 1) for p in range(4)])]
ABOVE = [(40, [(0, p) for p in range(1, 7)]), (40, [(0, p) for p in range(1, 4)] + [(4, 5), (5, 6)])]


def counted(forest):
    return prod(factorial(len(row)) for row in nearby_by(forest))


def plans_of(forests):
    return [list(plan) for plan in product(*[range(counted(forest)) for forest in forests])]


def carried_out(forests, before, plan):
    items = list(before)
    for forest, number in zip(forests, plan):
        items = outcome(forest, items, number)
    return tuple(items)


def sized_series():
    """One to six forests of one to eight positions, with few enough plans."""
    found = [BOTH, [A], [P, P], [(1, [])], [(1, [])] * 6, [(8, [])] * 6, [(3, [(0, 1), (1, 2)])] * 4]
    for seed in range(60):
        n = seed % 8 + 1
        forests = [mixed_forest(n, seed + 50 * k, 0.35 + 0.1 * (seed % 6)) for k in range(seed % 6 + 1)]
        if prod(map(counted, forests)) <= 700:
            found.append(forests)
    return found


class Examples(unittest.TestCase):
    def test_of_the_document(self):
        self.assertEqual(series_share([(2, [(0, 1)]), (2, [(0, 1)])], 0, 0), (1, 1))
        expected = [(["b", "c", "a"], 1), (["c", "a", "b"], 1)]
        self.assertEqual(series_after([(3, [(0, 1), (1, 2)])], list("abc")), expected)
        self.assertEqual(series_count(BOTH, list("ab"), list("ab")), 1)
        self.assertEqual(series_plan(BOTH, list("ab"), list("ab")), [0, 0])
        self.assertIsNone(series_plan(BOTH, list("ab"), list("ba")))
        with self.assertRaises(TooMany) as caught:
            series_after([STAR], list("abcdefgh"))
        self.assertIs(type(caught.exception), TooMany)
        self.assertEqual(caught.exception.many, 5040)


class PlanByPlan(unittest.TestCase):
    def test_all_functions(self):
        lengths = set()
        for forests in sized_series():
            self.check(forests)
            lengths.add((len(forests), forests[0][0]))
        self.assertEqual({length for length, _ in lengths}, {1, 2, 3, 4, 5, 6})
        self.assertEqual({n for _, n in lengths}, {1, 2, 3, 4, 5, 6, 7, 8})

    def test_pairs_of_small_forests(self):
        small = all_forests(3)
        for forests in product(small, small):
            self.check(list(forests))

    def check(self, forests):
        before = items_for(forests[0][0])
        led = [(plan, carried_out(forests, before, plan)) for plan in plans_of(forests)]
        ways = Counter(after for _, after in led)
        expected = [(list(after), ways[after]) for after in sorted(ways)]
        self.assertEqual(series_after(forests, before), expected)
        for after in shuffled(sorted(ways), len(led))[:12]:
            least = min(plan for plan, there in led if there == after)
            self.assertEqual(series_count(forests, before, list(after)), ways[after])
            self.assertEqual(series_plan(forests, before, list(after)), least)
        for after in (before, before[::-1], shuffled(before, 1), shuffled(before, 2)):
            self.assertEqual(series_count(forests, before, after), ways[tuple(after)])
            if tuple(after) not in ways:
                self.assertIsNone(series_plan(forests, before, after))
        self.check_shares(forests, before, ways, len(led))

    def check_shares(self, forests, before, ways, many):
        for start, end in product(range(len(before)), repeat=2):
            there = sum(count for after, count in ways.items() if after[end] == before[start])
            self.assertEqual(series_share(forests, start, end), as_pair(Fraction(there, many)))


class Together(unittest.TestCase):
    def test_one_behind_the_other(self):
        for forests in sized_series():
            before = items_for(forests[0][0])
            for at in range(1, len(forests)):
                ways = Counter()
                for middle, many in series_after(forests[:at], before):
                    for after, more in series_after(forests[at:], middle):
                        ways[tuple(after)] += many * more
                expected = [(list(after), ways[after]) for after in sorted(ways)]
                self.assertEqual(series_after(forests, before), expected)

    def test_there_and_back(self):
        # Every outcome of a forest is undone by exactly one other: by the reversed turns (R6).
        for forests in sized_series():
            before = items_for(forests[0][0])
            for after, many in series_after(forests, before)[:10]:
                self.assertEqual(series_count(forests[::-1], after, before), many)
            self.assertEqual(series_count(forests[::-1], before, before), series_count(forests, before, before))

    def test_one_forest(self):
        for forest in (A, P, star_forest(6), mixed_forest(9, 2), (5, [])):
            before = items_for(forest[0])
            found = series_after([forest], before)
            self.assertEqual([many for _, many in found], [1] * outcome_count(forest))
            for number in range(outcome_count(forest)):
                after = outcome(forest, before, number)
                self.assertEqual(series_plan([forest], before, after), [number])
                self.assertEqual(series_count([forest], before, after), 1)

    def test_shares_of_one_forest(self):
        for forest in (A, P, star_forest(40), mixed_forest(20, 4), mixed_forest(33, 5, 0.7)):
            for start, end in list(product(range(forest[0]), repeat=2))[::17]:
                self.assertEqual(series_share([forest], start, end), share(forest, start, end))

    def test_shares_of_several_forests(self):
        for n, many in ((20, 2), (25, 3), (40, 2)):
            forests = [mixed_forest(n, n + k, 0.9) for k in range(many)]
            for start, end in ((0, 0), (1, n - 1), (n // 2, 3)):
                # The first forest leads to some middle, the others lead on from there.
                whole = sum(Fraction(*share(forests[0], start, middle))
                            * Fraction(*series_share(forests[1:], middle, end)) for middle in range(n))
                self.assertEqual(series_share(forests, start, end), as_pair(whole))

    def test_shares_sum_to_one(self):
        for forests in ([star_forest(20), path_forest(20)], [mixed_forest(11, k) for k in range(6)],
                        [star_forest(24)] * 2, [(20, [])] * 6):
            n = forests[0][0]
            for at in (0, n - 2):
                self.assertEqual(sum(Fraction(*series_share(forests, at, end)) for end in range(n)), 1)
                self.assertEqual(sum(Fraction(*series_share(forests, start, at)) for start in range(n)), 1)

    def test_a_star_twice(self):
        # After one star each other position is reached in one part of d, so after two: not, or from all others.
        for n in (3, 8, 20, 40):
            forests = [star_forest(n, n // 3)] * 2
            d = n - 1
            for start, end in ((0, 0), (n - 1, n - 1), (0, n - 1), (n // 3, n // 3), (n // 3, 0)):
                expected = Fraction(1, d) if start == end else Fraction(d - 1, d * d)
                if n > 3 or start == end:
                    self.assertEqual(series_share(forests, start, end), as_pair(expected))
                self.assertEqual(series_share(end=end, start=start, forests=forests), as_pair(expected))


class Limits(unittest.TestCase):
    def test_up_to_five_thousand(self):
        before = items_for(40)
        self.assertEqual(prod(map(counted, BELOW)), 4608)
        found = series_after(BELOW, before)
        self.assertEqual(sum(many for _, many in found), 4608)
        self.assertEqual(found, sorted(found))
        self.assertEqual(len(set(tuple(after) for after, _ in found)), len(found))
        for after, many in found[::500]:
            self.assertEqual(series_count(BELOW, before, after), many)
            plan = series_plan(BELOW, before, after)
            self.assertEqual(list(carried_out(BELOW, before, plan)), after)
        self.assertEqual(series_count(BELOW, before, before[::-1]), 0)
        self.assertIsNone(series_plan(BELOW, before, before[::-1]))

    def test_above(self):
        cases = [[STAR], [(8, []), STAR], [STAR] * 6, ABOVE, [star_forest(40)], [star_forest(40)] * 6,
                 BELOW + [path_forest(40)], BELOW + [(40, [(0, 1), (1, 2)])]]
        for forests in cases:
            many = prod(map(counted, forests))
            self.assertGreater(many, 5000)
            before = items_for(forests[0][0])
            for function, arguments in ((series_after, []), (series_count, [before]), (series_plan, [before])):
                with self.assertRaises(TooMany) as caught:
                    function(forests, before, *arguments)
                self.assertIs(type(caught.exception), TooMany)
                self.assertEqual(caught.exception.many, many)
            self.assertIsNone(error_of(series_share, forests, 0, 1))

    def test_too_many_comes_last(self):
        before = items_for(8)
        self.assertIs(error_of(series_after, [STAR], before[:-1]), NoArrangement)
        for function in (series_count, series_plan):
            self.assertIs(error_of(function, [STAR], before[:-1], before), NoArrangement)
            self.assertIs(error_of(function, [STAR], before, before[:-1]), NoArrangement)
            self.assertIs(error_of(function, [STAR], before, before[:-1] + ["other"]), NoArrangement)
            self.assertIs(error_of(function, [STAR, P], before, before), NoForest)
            self.assertIs(error_of(function, [STAR], before, before[::-1]), TooMany)


def no_series():
    """Objects that are no list of one to six forests with the same n."""
    found = [[], (A,), [A, P], [P, A], [A] * 7, [P] * 8, [A, A, A, A, A, P], [(A,)], [[A]], A, [A, None],
             [None, A], [A, (5, [(1, 0)])], [(5, [(0, 1), (0, 2), (1, 2)])], [A, (5, [], None)], [list(A)],
             [(5, ())], [(0, [])], [(41, [])], [(True, [])], [A, (4, A[1])], {}, "A", [A, [A]], [(5, A[1] * 2)]]
    return found + [thing for thing in odd_objects() if thing != [A]]


class Errors(unittest.TestCase):
    FUNCTIONS = {series_share: [0, 0], series_after: [ABCDE], series_count: [ABCDE, ABCDE],
                 series_plan: [ABCDE, ABCDE]}

    def test_forests(self):
        for function, arguments in self.FUNCTIONS.items():
            for forests in no_series():
                self.assertIs(error_of(function, forests, *arguments), NoForest, forests)
                wrong = [-1, -1] if function is series_share else [None] * len(arguments)
                self.assertIs(error_of(function, forests, *wrong), NoForest)
            for many in range(1, 7):
                self.assertIsNone(error_of(function, [(5, [(0, 1)])] * many, *arguments))

    def test_positions(self):
        for position in (-1, 5, 6, BIG, -BIG):
            self.assertIs(error_of(series_share, [A], position, 0), NoPosition)
            self.assertIs(error_of(series_share, [A, A], 0, position), NoPosition)
            self.assertIs(error_of(series_share, end=position, start=position, forests=[A]), NoPosition)

    def test_arrangements(self):
        for thing in bad_arrangements(ABCDE)[::2] + [items_for(6), items_for(4)]:
            self.assertIs(error_of(series_after, [A], thing), NoArrangement)
            for function in (series_count, series_plan):
                self.assertIs(error_of(function, [A, A], thing, ABCDE), NoArrangement)
                self.assertIs(error_of(function, [A, A], ABCDE, thing), NoArrangement)
        for function in (series_count, series_plan):
            self.assertIs(error_of(function, [A], ABCDE, list("abcdf")), NoArrangement)

    def test_combinations(self):
        items = [(ABCDE, None), (tuple(ABCDE), NoArrangement), (list("abcd"), NoArrangement), (None, NoArrangement)]
        places = [(0, None), (4, None), (5, NoPosition), (-1, NoPosition)]
        choices = {"forests": [([A], None), ([A, P], NoForest), ([], NoForest), (A, NoForest)], "before": items,
                   "after": items + [(list("abcdf"), NoArrangement)], "start": places, "end": places}
        for function in self.FUNCTIONS:
            check_errors(self, function, choices, False)
            check_errors(self, function, choices, False, by_name=True)


class Independence(StaysApart, unittest.TestCase):
    def all_calls(self):
        found = []
        for forests in sized_series()[::4] + [BOTH]:
            before = items_for(forests[0][0])
            after = list(before)
            for k, forest in enumerate(forests):
                after = after_by(after, shuffled(forest[1], k))
            found += [(series.series_share, [forests, 0, len(before) - 1]), (series.series_after, [forests, before]),
                      (series.series_count, [forests, before, after]), (series.series_plan, [forests, before, after])]
        return [(function, [list(part) if isinstance(part, list) else part for part in arguments])
                for function, arguments in found if len(set(map(id, arguments[0]))) == len(arguments[0])]


if __name__ == "__main__":
    unittest.main()
