import unittest
from fractions import Fraction
from itertools import permutations
from math import factorial

from onceswapped.errors import NotReached
from onceswapped.judge import can_be, turns_of
from onceswapped.outcomes import outcome, outcome_count, outcome_number
from onceswapped.partial import (
    certain, conflict, demands, fits, fitting_count, least_fitting, share_given)
from onceswapped.shares import share
from tests.observing import all_observations, masked, some_observations
from tests.oracle import after_by, results
from tests.partial_oracle import (
    agrees, after_by_turns, all_turns, count_by_turns, count_in_stars, demanded, first_conflict_by,
    least_by_turns, nearby_by, part_of, strays_by)
from tests.samples import (
    A, P, all_forests, items_for, mixed_forest, path_forest, shuffled, sized_forests, star_forest)

ABCDE = list("abcde")
SEEN = [None, None, "a", None, None]
# Six trees of 40 positions: two stars of 14 and 12, a path, a tree, an edge and a single position.
TREES = (40, sorted(
    [(0, p) for p in range(1, 14)] + [(p, 25) for p in range(14, 25)] + [(p, p + 1) for p in range(26, 31)]
    + [(32, 33), (33, 34), (33, 35), (35, 36), (37, 38)]))
STARS = (40, sorted([(0, p) for p in range(1, 14)] + [(p, 25) for p in range(14, 25)]
                    + [(26, p) for p in range(27, 38)]))


def reason_of(test, function, *arguments):
    with test.assertRaises(NotReached) as caught:
        function(*arguments)
    test.assertIs(type(caught.exception), NotReached)
    return caught.exception.reason


def grown(rows, count):
    """Observations that see one more item each time, all fitting; ends with a full one."""
    forest, before, after = rows
    order = shuffled(range(forest[0]), count)
    return [masked(after, order[:k]) for k in range(forest[0] + 1)]


class Examples(unittest.TestCase):
    def test_of_the_running_text(self):
        self.assertEqual(demands(A, ABCDE, SEEN), [[(0, 1)], [(0, 2)], [(1, 2)], [], []])
        self.assertIs(fits(A, ABCDE, SEEN), True)
        self.assertEqual(fitting_count(A, ABCDE, SEEN), 2)
        self.assertEqual(least_fitting(A, ABCDE, SEEN), list("bdace"))
        self.assertEqual(certain(A, ABCDE, SEEN), [None, None, "a", None, "e"])
        self.assertEqual(share_given(A, ABCDE, SEEN, "c", 3), (1, 2))

    def test_by_name(self):
        named = {"seen": SEEN, "before": ABCDE, "forest": A}
        self.assertEqual(demands(**named), [[(0, 1)], [(0, 2)], [(1, 2)], [], []])
        self.assertIs(fits(**named), True)
        self.assertEqual(fitting_count(**named), 2)
        self.assertEqual(least_fitting(**named), list("bdace"))
        self.assertEqual(certain(**named), [None, None, "a", None, "e"])
        self.assertEqual(share_given(position=3, item="c", **named), (1, 2))


class AgainstAllOrders(unittest.TestCase):
    def test_every_observation_of_up_to_three(self):
        for forest in all_forests(1) + all_forests(2) + all_forests(3):
            self.check_all(forest, 1, 1)

    def test_observations_of_four(self):
        for k, forest in enumerate(all_forests(4)):
            self.check_all(forest, 1, k % 5 + 3)

    def test_observations_of_five_and_six(self):
        for k, forest in enumerate(all_forests(5)[::9]):
            self.check_all(forest, 23, k % 5 + 3)
        for seed, forest in enumerate(all_forests(6)[::150] + [mixed_forest(6, seed) for seed in range(8)]):
            before, found = some_observations(forest, seed)
            outcomes = sorted_outcomes(forest, before)
            for seen in found:
                self.check(forest, before, seen, outcomes)
                self.check_shares(forest, before, seen, outcomes)

    def check_all(self, forest, step, shares_step):
        before = items_for(forest[0])
        outcomes = sorted_outcomes(forest, before)
        for k, seen in enumerate(list(all_observations(before))[::step]):
            self.check(forest, before, seen, outcomes)
            if k % shares_step == 0:
                self.check_shares(forest, before, seen, outcomes)

    def check(self, forest, before, seen, outcomes):
        fitting = [after for after in outcomes if agrees(after, seen)]
        self.assertIs(fits(forest, before, seen), bool(fitting))
        self.assertEqual(fitting_count(forest, before, seen), len(fitting))
        self.assertEqual(least_fitting(forest, before, seen), fitting[0] if fitting else None)
        why = first_conflict_by(forest, before, seen)
        self.assertEqual(conflict(forest, before, seen), why)
        self.assertEqual(why is None, bool(fitting))
        if fitting:
            same = [column[0] if len(set(column)) == 1 else None for column in zip(*fitting)]
            self.assertEqual(certain(forest, before, seen), same)
        else:
            self.assertEqual(reason_of(self, certain, forest, before, seen), why)
        moved = strays_by(forest, before, seen)
        if moved:
            self.assertEqual(reason_of(self, demands, forest, before, seen), ("moved", moved[0]))
        else:
            self.assertEqual(demands(forest, before, seen), demanded(forest, before, seen))

    def check_shares(self, forest, before, seen, outcomes):
        fitting = [after for after in outcomes if agrees(after, seen)]
        for item in before:
            for position in range(forest[0]):
                if fitting:
                    there = [after for after in fitting if after[position] == item]
                    found = share_given(forest, before, seen, item, position)
                    self.assertEqual(found, part_of(len(there), len(fitting)))
                else:
                    why = reason_of(self, share_given, forest, before, seen, item, position)
                    self.assertEqual(why, first_conflict_by(forest, before, seen))


def sorted_outcomes(forest, before):
    """All outcomes that some order produces, in ascending order of their turns."""
    found = [after_by_turns(forest, before, turns) for turns in all_turns(forest)]
    assert sorted(found) == sorted(map(list, results(forest, before)))
    return found


class Demands(unittest.TestCase):
    def test_all_sizes(self):
        for k, forest in enumerate(sized_forests()[::2]):
            before, found = some_observations(forest, k)
            for seen in found:
                moved = strays_by(forest, before, seen)
                if moved:
                    why = reason_of(self, demands, forest, before, seen)
                    self.assertEqual(why, ("moved", moved[0]))
                else:
                    self.assertEqual(demands(forest, before, seen), demanded(forest, before, seen))

    def test_nothing_seen(self):
        for forest in sized_forests()[::9]:
            before = items_for(forest[0])
            self.assertEqual(demands(forest, before, [None] * forest[0]), [[] for _ in range(forest[0])])

    def test_all_seen(self):
        for k, forest in enumerate(sized_forests()[::5]):
            before = items_for(forest[0])
            after = after_by(before, shuffled(forest[1], k))
            turns = turns_of(forest, before, after)
            circles = [[p] + turn for p, turn in enumerate(turns)]
            expected = [sorted(zip(row, row[1:] + row[:1])) if len(row) > 1 else [] for row in circles]
            self.assertEqual(demands(forest, before, after), expected)

    def test_items_at_their_start(self):
        self.assertEqual(demands(A, ABCDE, list("abcde")), [[(0, 0)], [(1, 1)], [(2, 2)], [(3, 3)], []])
        self.assertEqual(demands(A, ABCDE, [None] * 4 + ["e"]), [[]] * 5)
        for n in range(1, 41):
            before = items_for(n)
            self.assertEqual(demands((n, []), before, list(before)), [[] for _ in range(n)])

    def test_items_at_neighbours(self):
        seen = ["b", "a", None, None, None]
        self.assertEqual(demands(A, ABCDE, seen), [[(0, 1), (1, 0)], [(0, 1), (1, 0)], [], [], []])

    def test_the_same_pair_twice(self):
        # Both items go on from 1 to 2 and from 2 to 3.
        forest = (6, [(0, 1), (1, 2), (2, 3), (3, 4), (3, 5)])
        seen = [None, None, None, None, "a", "b"]
        before = list("abcdef")
        expected = [[(0, 1)], [(0, 2), (1, 2)], [(1, 3)], [(2, 4), (2, 5)], [(3, 4)], [(3, 5)]]
        self.assertEqual(demands(forest, before, seen), expected)

    def test_the_least_start_in_another_tree(self):
        forest = (6, [(0, 1), (2, 3), (4, 5)])
        before = list("abcdef")
        cases = ((list("fecdba"), 0), ([None, None, "f", "e", None, None], 4), (["d"] + [None] * 5, 3),
                 (["f", None, None, None, "d", None], 3), (["b", "a", "e", None, None, "c"], 2))
        for seen, start in cases:
            self.assertEqual(reason_of(self, demands, forest, before, seen), ("moved", start))

    def test_other_conflicts_are_no_error(self):
        self.assertEqual(demands(P, list("abcd"), [None, None, "b", "a"]),
                         [[(0, 1)], [(0, 2), (1, 2)], [(1, 2), (1, 3)], [(2, 3)]])


class Counts(unittest.TestCase):
    def test_by_the_turns_of_each_position(self):
        for k, forest in enumerate(sized_forests()):
            if max(map(len, nearby_by(forest))) > 6:
                continue
            before, found = some_observations(forest, k)
            for seen in found:
                expected = count_by_turns(forest, before, seen)
                self.assertEqual(fitting_count(forest, before, seen), expected)
                self.assertIs(fits(forest, before, seen), expected > 0)
                self.check_least(forest, before, seen, expected)

    def check_least(self, forest, before, seen, expected):
        after = least_fitting(forest, before, seen)
        if expected == 0:
            self.assertIsNone(after)
        else:
            self.assertTrue(agrees(after, seen))
            self.assertEqual(turns_of(forest, before, after), least_by_turns(forest, before, seen))

    def test_stars(self):
        forests = [star_forest(40), star_forest(40, 39), star_forest(40, 17), star_forest(25, 3), STARS]
        for forest in forests:
            positive = 0
            for seed in range(12):
                before, found = some_observations(forest, seed)
                for seen in found:
                    expected = count_in_stars(forest, before, seen)
                    positive += expected > 0
                    self.assertEqual(fitting_count(forest, before, seen), expected)
                    self.assertIs(fits(forest, before, seen), expected > 0)
            self.assertGreater(positive, 50)

    def test_a_star_of_forty_step_by_step(self):
        forest = star_forest(40)
        before = items_for(40)
        after = after_by(before, shuffled(forest[1], 4))
        for k, seen in enumerate(grown((forest, before, after), 3)):
            self.assertEqual(fitting_count(forest, before, seen), factorial(max(39 - k, 0)))

    def test_nothing_seen(self):
        for forest in sized_forests() + [TREES, STARS]:
            before = items_for(forest[0])
            seen = [None] * forest[0]
            self.assertEqual(fitting_count(forest, before, seen), outcome_count(forest))
            self.assertEqual(least_fitting(forest, before, seen), outcome(forest, before, 0))

    def test_one_more_item(self):
        for k, forest in enumerate(sized_forests()[::15] + [TREES, STARS, star_forest(40)]):
            before = items_for(forest[0])
            after = after_by(before, shuffled(forest[1], k))
            for seen in grown((forest, before, after), k)[::7]:
                many = fitting_count(forest, before, seen)
                for position in [p for p in range(forest[0]) if seen[p] is None][:2]:
                    self.check_one_more(forest, before, seen, position, many)

    def check_one_more(self, forest, before, seen, position, many):
        counts = []
        for item in before:
            more = seen[:position] + [item] + seen[position + 1:]
            counts.append(0 if item in seen else fitting_count(forest, before, more))
            expected = part_of(counts[-1], many)
            self.assertEqual(share_given(forest, before, seen, item, position), expected)
        self.assertEqual(sum(counts), many)

    def test_full_observations(self):
        for k, forest in enumerate(sized_forests()):
            before = items_for(forest[0])
            after = after_by(before, shuffled(forest[1], k))
            swapped = [after[1], after[0]] + after[2:] if forest[0] > 1 else after
            for seen in (after, before, swapped, shuffled(before, k)):
                possible = can_be(forest, before, seen)
                self.assertIs(fits(forest, before, seen), possible)
                self.assertEqual(fitting_count(forest, before, seen), int(possible))
                self.assertEqual(least_fitting(forest, before, seen), seen if possible else None)

    def test_all_full_observations_of_five(self):
        for forest in all_forests(5)[::30]:
            for after in permutations(ABCDE):
                self.assertIs(fits(forest, ABCDE, list(after)), can_be(forest, ABCDE, list(after)))


class Least(unittest.TestCase):
    def test_no_fitting_outcome_has_a_lesser_number(self):
        for k, forest in enumerate([A, P, star_forest(7), mixed_forest(9, 2), mixed_forest(8, 3, 0.8)]):
            before, found = some_observations(forest, k)
            outcomes = [outcome(forest, before, number) for number in range(outcome_count(forest))]
            for seen in found:
                fitting = [after for after in outcomes if agrees(after, seen)]
                least = least_fitting(forest, before, seen)
                self.assertEqual(least, fitting[0] if fitting else None)

    def test_stars_of_forty(self):
        forest = star_forest(40, 20)
        before = items_for(40)
        after = after_by(before, shuffled(forest[1], 8))
        numbers = []
        for seen in grown((forest, before, after), 5):
            least = least_fitting(forest, before, seen)
            self.assertTrue(agrees(least, seen))
            numbers.append(outcome_number(forest, before, least))
            # The least turn of the middle has no later entry that could be put before an earlier one.
            self.assertEqual(count_in_stars(forest, before, least), 1)
        self.assertEqual(numbers, sorted(numbers))
        self.assertEqual(numbers[0], 0)
        self.assertEqual(numbers[-1], outcome_number(forest, before, after))

    def test_a_star_by_trying(self):
        # The first entry of the turn is the least one with which the rest still fits, and so on.
        for seed in range(6):
            forest = star_forest(12, seed)
            before, found = some_observations(forest, seed)
            for seen in found:
                if count_in_stars(forest, before, seen):
                    after = least_fitting(forest, before, seen)
                    turn = turns_of(forest, before, after)[seed]
                    self.assertEqual(turn, self.tried(forest, before, seen, seed))

    def tried(self, forest, before, seen, middle):
        turn = []
        free = list(seen)
        here = middle
        while len(turn) < forest[0] - 1:
            for there in sorted(set(range(forest[0])) - set(turn) - {middle}):
                item = before[here]
                if free[there] in (None, item) and (item not in free or free[there] == item):
                    trial = free[:there] + [item] + free[there + 1:]
                    if count_in_stars(forest, before, trial):
                        break
            free = trial
            turn.append(there)
            here = there
        return turn


class Certain(unittest.TestCase):
    def test_what_has_the_share_one(self):
        for k, forest in enumerate(sized_forests()[::19] + [TREES, star_forest(40)]):
            before = items_for(forest[0])
            after = after_by(before, shuffled(forest[1], k))
            for seen in grown((forest, before, after), k)[::9] + [masked(after, range(forest[0] - 2))]:
                found = certain(forest, before, seen)
                for position in range(k % 7, forest[0], 7):
                    sure = [item for item in before
                            if share_given(forest, before, seen, item, position) == (1, 1)]
                    self.assertEqual(sure, [] if found[position] is None else [found[position]])

    def test_one_or_two_unseen(self):
        for k, forest in enumerate(sized_forests()[::5]):
            before = items_for(forest[0])
            after = after_by(before, shuffled(forest[1], k))
            for missing in (1, 2):
                seen = masked(after, range(forest[0] - missing))
                if fitting_count(forest, before, seen) == 1:
                    self.assertEqual(certain(forest, before, seen), after)

    def test_paths_and_single_positions(self):
        self.assertEqual(certain((3, []), ["a", "b", "c"], [None] * 3), ["a", "b", "c"])
        self.assertEqual(certain((2, [(0, 1)]), ["a", "b"], [None] * 2), ["b", "a"])
        # Of the three items only two rings are possible, so one item tells all of them.
        self.assertEqual(certain(path_forest(3), ["a", "b", "c"], [None] * 3), [None] * 3)
        self.assertEqual(certain(path_forest(3), ["a", "b", "c"], ["b", None, None]), ["b", "c", "a"])


class SharesGiven(unittest.TestCase):
    def test_they_sum_to_one(self):
        for k, forest in enumerate(sized_forests()[::17] + [TREES, STARS]):
            before = items_for(forest[0])
            after = after_by(before, shuffled(forest[1], k))
            for seen in grown((forest, before, after), k + 1)[::9]:
                for at in range(0, forest[0], 16):
                    here = [share_given(forest, before, seen, item, at) for item in before]
                    there = [share_given(forest, before, seen, before[at], p) for p in range(forest[0])]
                    self.assertEqual(sum(Fraction(*one) for one in here), 1)
                    self.assertEqual(sum(Fraction(*one) for one in there), 1)

    def test_nothing_seen(self):
        for forest in sized_forests()[::13] + [TREES]:
            before = items_for(forest[0])
            seen = [None] * forest[0]
            for start in range(0, forest[0], 2):
                for end in range(0, forest[0], 3):
                    found = share_given(forest, before, seen, before[start], end)
                    self.assertEqual(found, share(forest, start, end))

    def test_all_seen(self):
        for k, forest in enumerate(sized_forests()[::13]):
            before = items_for(forest[0])
            after = after_by(before, shuffled(forest[1], k))
            for item in before[::3]:
                for position in range(0, forest[0], 2):
                    expected = (1, 1) if after[position] == item else (0, 1)
                    self.assertEqual(share_given(forest, before, after, item, position), expected)


if __name__ == "__main__":
    unittest.main()
