import unittest
from math import factorial, prod

from onceswapped.errors import NoNumber, NotReached
from onceswapped.judge import can_be, reason, turns_of
from onceswapped.outcomes import outcome, outcome_count, outcome_number
from onceswapped.turns import after_turns
from tests.oracle import after_by, results
from tests.partial_oracle import all_turns, nearby_by
from tests.samples import (
    A, BIG, P, all_forests, error_of, items_for, mixed_forest, path_forest, shuffled, sized_forests,
    star_forest)

NO_NUMBERS = (-1, -2, -40, BIG, -BIG, 10 ** 60 - 1, 1 - 10 ** 60)


def counted(forest):
    return prod(factorial(len(row)) for row in nearby_by(forest))


def chosen_numbers(many):
    """The first numbers, the last ones, and some between."""
    near = [0, 1, 2, many // 3, many // 2 - 1, many // 2, many * 2 // 3, many - 3, many - 2, many - 1]
    return sorted(set(number for number in near if 0 <= number < many))


class Examples(unittest.TestCase):
    def test_outcome_count(self):
        self.assertEqual(outcome_count(A), 6)
        self.assertEqual(outcome_count(P), 4)
        self.assertEqual(outcome_count((1, [])), 1)

    def test_outcome(self):
        self.assertEqual(outcome(A, list("abcde"), 5), ["c", "a", "d", "b", "e"])
        self.assertIs(error_of(outcome, A, list("abcde"), 6), NoNumber)

    def test_outcome_number(self):
        self.assertEqual(outcome_number(P, list("abcd"), list("cadb")), 2)


class Counts(unittest.TestCase):
    def test_all_sizes(self):
        for forest in sized_forests():
            self.assertEqual(outcome_count(forest), counted(forest))
            self.assertIs(type(outcome_count(forest=forest)), int)

    def test_without_edges(self):
        for n in range(1, 41):
            items = items_for(n)
            self.assertEqual(outcome_count((n, [])), 1)
            self.assertEqual(outcome((n, []), items, 0), items)
            self.assertEqual(outcome_number((n, []), items, list(items)), 0)

    def test_stars(self):
        for n in range(2, 41):
            self.assertEqual(outcome_count(star_forest(n)), factorial(n - 1))
            self.assertEqual(outcome_count(star_forest(n, n - 1)), factorial(n - 1))

    def test_paths(self):
        for n in range(2, 41):
            self.assertEqual(outcome_count(path_forest(n)), 2 ** (n - 2))


class Small(unittest.TestCase):
    def test_every_number(self):
        for forest in all_forests(1) + all_forests(2) + all_forests(3) + all_forests(4) + all_forests(5)[::6]:
            items = items_for(forest[0])
            turns = all_turns(forest)
            self.assertEqual(outcome_count(forest), len(turns))
            for number, row in enumerate(turns):
                after = outcome(forest, items, number)
                self.assertEqual(after, after_turns(forest, items, row))
                self.assertEqual(turns_of(forest, items, after), row)
                self.assertEqual(outcome_number(forest, items, after), number)

    def test_all_outcomes_have_a_number(self):
        for forest in (A, P, star_forest(6), mixed_forest(7, 1), mixed_forest(7, 3, 0.6)):
            items = items_for(forest[0])
            found = results(forest, items)
            numbers = sorted(outcome_number(forest, items, list(after)) for after in found)
            self.assertEqual(numbers, list(range(outcome_count(forest))))


class Large(unittest.TestCase):
    def test_there_and_back(self):
        for k, forest in enumerate(sized_forests()):
            items = items_for(forest[0])
            for number in chosen_numbers(counted(forest)):
                after = outcome(number=number, items=items, forest=forest)
                self.assertIs(can_be(forest, items, after), True)
                self.assertEqual(outcome_number(forest, items, after), number)
            after = after_by(items, shuffled(forest[1], k))
            number = outcome_number(after=after, before=items, forest=forest)
            self.assertEqual(outcome(forest, items, number), after)

    def test_first_and_last(self):
        for forest in sized_forests():
            items = items_for(forest[0])
            least = nearby_by(forest)
            last = [row[::-1] for row in least]
            self.assertEqual(turns_of(forest, items, outcome(forest, items, 0)), least)
            greatest = outcome(forest, items, counted(forest) - 1)
            self.assertEqual(turns_of(forest, items, greatest), last)

    def test_turns_ascend_with_the_numbers(self):
        for forest in sized_forests()[::3]:
            items = items_for(forest[0])
            numbers = chosen_numbers(counted(forest))
            turns = [turns_of(forest, items, outcome(forest, items, number)) for number in numbers]
            self.assertEqual(turns, sorted(turns))
            self.assertEqual(len(set(map(str, turns))), len(turns))

    def test_next_turns_have_next_numbers(self):
        for k, forest in enumerate(sized_forests()[::2]):
            items = items_for(forest[0])
            turns = turns_of(forest, items, after_by(items, shuffled(forest[1], k)))
            following = next_turns(turns)
            number = outcome_number(forest, items, after_turns(forest, items, turns))
            if following is None:
                self.assertEqual(number, counted(forest) - 1)
            else:
                after = after_turns(forest, items, following)
                self.assertEqual(outcome_number(forest, items, after), number + 1)
                self.assertEqual(outcome(forest, items, number + 1), after)

    def test_a_star_of_forty(self):
        items = items_for(40)
        for middle in (0, 20, 39):
            forest = star_forest(40, middle)
            for number in (0, 1, factorial(39) // 7, factorial(39) - 1):
                after = outcome(forest, items, number)
                self.assertEqual(outcome_number(forest, items, after), number)
            for number in (factorial(39), factorial(39) + 1, factorial(40), BIG, -1):
                self.assertIs(error_of(outcome, forest, items, number), NoNumber)


def next_turns(turns):
    """The next turns in ascending order, or None: the last position that can rise does."""
    for at in range(len(turns) - 1, -1, -1):
        row = turns[at]
        for k in range(len(row) - 2, -1, -1):
            if row[k] < row[k + 1]:
                rest = sorted(row[k:])
                head = rest.pop(rest.index(row[k]) + 1)
                return turns[:at] + [row[:k] + [head] + rest] + [sorted(own) for own in turns[at + 1:]]
    return None


class Errors(unittest.TestCase):
    def test_numbers(self):
        for forest in sized_forests()[::5]:
            items = items_for(forest[0])
            many = counted(forest)
            for number in NO_NUMBERS + (many, many + 1, 2 * many):
                if number < 0 or number >= many:
                    self.assertIs(error_of(outcome, forest, items, number), NoNumber, number)
            self.assertIs(error_of(outcome, forest, items, many - 1), None)

    def test_not_reached_tells_the_reason(self):
        cases = [(A, list("abcde"), list("abcde")), (P, list("abcd"), list("acdb")),
                 (P, list("abcd"), list("dcab")), ((3, []), ["a", "b", "c"], ["b", "a", "c"])]
        for forest in sized_forests()[::7]:
            items = items_for(forest[0])
            cases += [(forest, items, shuffled(items, seed)) for seed in range(3)]
        kinds = set()
        for forest, before, after in cases:
            why = reason(forest, before, after)
            if why is not None:
                with self.assertRaises(NotReached) as caught:
                    outcome_number(forest, before, after)
                self.assertIs(type(caught.exception), NotReached)
                self.assertEqual(caught.exception.reason, why)
                kinds.add(why[0])
        self.assertEqual(kinds, {"moved", "ring", "cross"})


if __name__ == "__main__":
    unittest.main()
