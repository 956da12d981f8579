"""The general rules for outcomes, shares and partial: errors, and lists that stay apart."""

import copy
import unittest

from onceswapped import outcomes, partial, shares
from onceswapped.errors import (
    NoArrangement, NoForest, NoItem, NoNumber, NoObservation, NoPosition, NotReached)
from onceswapped.judge import reason
from tests.observing import ODD_ENTRIES, bad_observations, masked, some_observations
from tests.oracle import after_by
from tests.partial_oracle import first_conflict_by, strays_by
from tests.rules import ABCDE, AFTERS, FORESTS, ITEMS, StaysApart, answer_of, check_errors, names_of
from tests.samples import (
    A, BIG, P, bad_arrangements, error_of, items_for, lists_inside, mixed_forest, odd_objects,
    path_forest, shuffled, star_forest)

SEEN_FUNCTIONS = [
    partial.demands, partial.fits, partial.fitting_count, partial.conflict, partial.shows_conflict,
    partial.least_fitting, partial.certain, partial.share_given]
FUNCTIONS = [
    outcomes.outcome_count, outcomes.outcome, outcomes.outcome_number, shares.share, shares.order_share,
    shares.share_table] + SEEN_FUNCTIONS
# Which functions raise NotReached: for an item in another tree only, or whenever nothing fits.
IF_MOVED = (partial.demands,)
IF_NOTHING_FITS = (outcomes.outcome_number, partial.certain, partial.share_given)

MOVED = [None, None, "e", None, None]
LOOP = ["c", None, "a", None, None]
FITTING = [([None, None, "a", None, None], None), ([None] * 5, None), (list("bdace"), None)]
NO_OBSERVATION = [
    (tuple([None] * 5), NoObservation), ([None] * 4, NoObservation), (["a", "a"] + [None] * 3, NoObservation),
    ([None] * 4 + ["f"], NoObservation), (None, NoObservation)]
CHOICES = {
    "forest": FORESTS, "items": ITEMS, "before": ITEMS, "after": AFTERS, "thing": [(None, None), ([], None)],
    "number": [(0, None), (5, None), (6, NoNumber), (-1, NoNumber), (BIG, NoNumber), (-BIG, NoNumber)],
    "start": [(0, None), (4, None), (5, NoPosition), (-1, NoPosition), (BIG, NoPosition)],
    "end": [(0, None), (4, None), (5, NoPosition), (-1, NoPosition), (-BIG, NoPosition)],
    "item": [("a", None), ("e", None), ("f", NoItem), ("", NoItem), ("aa", NoItem), ("A", NoItem)],
    "position": [(0, None), (4, None), (5, NoPosition), (-1, NoPosition), (BIG, NoPosition)]}


def choices_for(function):
    """What is tried; whether an observation is reached depends on the function."""
    unreached = {partial.demands: [(MOVED, NotReached), (LOOP, None)]}
    lost = unreached.get(function, [(MOVED, NotReached), (LOOP, NotReached)])
    return dict(CHOICES, seen=FITTING + lost + NO_OBSERVATION)


def valid_arguments(forest, before, seen, seed):
    """One valid value for every name of an argument but those of one observation."""
    n = forest[0]
    number = outcomes.outcome_count(forest) * seed // 7 % outcomes.outcome_count(forest)
    return {"forest": forest, "items": list(before), "before": before, "seen": seen, "number": number,
            "after": after_by(before, shuffled(forest[1], seed)), "start": seed % n, "end": 3 * seed % n,
            "item": before[seed % n], "position": 5 * seed % n, "thing": ("loop", 0, [0])}


def calls(forest, before, seen, seed):
    arguments = valid_arguments(forest, before, seen, seed)
    return [(function, [arguments[name] for name in names_of(function)]) for function in FUNCTIONS]


class Errors(unittest.TestCase):
    def test_the_first_invalid_argument_decides(self):
        for function in FUNCTIONS:
            may_not_reach = function in IF_MOVED + IF_NOTHING_FITS
            check_errors(self, function, choices_for(function), may_not_reach)

    def test_by_name(self):
        for function in FUNCTIONS:
            may_not_reach = function in IF_MOVED + IF_NOTHING_FITS
            some = {name: choices[:2] + choices[-2:] for name, choices in choices_for(function).items()}
            check_errors(self, function, some, may_not_reach, by_name=True)

    def test_other_objects(self):
        first = {name: choices[0][0] for name, choices in choices_for(None).items()}
        wrong = {"forest": NoForest, "items": NoArrangement, "before": NoArrangement,
                 "after": NoArrangement, "seen": NoObservation}
        for function in FUNCTIONS:
            for name in names_of(function):
                for thing in odd_objects() if name in wrong else []:
                    values = dict(first, **{name: thing})
                    chosen = [values[key] for key in names_of(function)]
                    self.assertIs(error_of(function, *chosen), wrong[name], (function, thing))

    def test_everything_wrong_at_once(self):
        whole = {"number": -1, "start": -1, "end": -1, "position": -1, "item": ""}
        for function in FUNCTIONS:
            for thing in odd_objects():
                values = [whole.get(name, thing) for name in names_of(function)]
                self.assertIs(error_of(function, *values), NoForest)

    def test_bad_arrangements(self):
        for forest in (A, (2, [(0, 1)]), mixed_forest(40, 8)):
            before = items_for(forest[0])
            arguments = valid_arguments(forest, before, [None] * forest[0], 3)
            for function in SEEN_FUNCTIONS + [outcomes.outcome, outcomes.outcome_number]:
                for thing in bad_arrangements(before)[::5]:
                    values = dict(arguments, before=thing, items=thing)
                    chosen = [values[key] for key in names_of(function)]
                    self.assertIs(error_of(function, *chosen), NoArrangement)

    def test_bad_observations(self):
        for forest in (A, (1, []), (2, [(0, 1)]), mixed_forest(12, 2, 0.6), star_forest(40)):
            before = items_for(forest[0])
            arguments = valid_arguments(forest, before, None, 3)
            for seen in bad_observations(before):
                for function in SEEN_FUNCTIONS:
                    values = dict(arguments, seen=seen)
                    chosen = [values[key] for key in names_of(function)]
                    self.assertIs(error_of(function, *chosen), NoObservation, seen)

    def test_items_and_positions(self):
        for forest in (A, (1, []), star_forest(40)):
            before = items_for(forest[0])
            nothing = [None] * forest[0]
            for item in [entry for entry in ODD_ENTRIES if isinstance(entry, str)] + ["b" * 9, "x" * 4000]:
                if item not in before:
                    for position in (0, -1, 40):
                        found = error_of(partial.share_given, forest, before, nothing, item, position)
                        self.assertIs(found, NoItem)
            for position in (-1, -forest[0], forest[0], 40, BIG, -BIG):
                found = error_of(partial.share_given, forest, before, nothing, before[0], position)
                self.assertIs(found, NoPosition)

    def test_not_reached_comes_last(self):
        for seen in (MOVED, LOOP):
            for item, position, expected in (("f", 9, NoItem), ("f", 0, NoItem), ("a", 9, NoPosition),
                                             ("a", -1, NoPosition), ("a", 0, NotReached)):
                found = error_of(partial.share_given, A, ABCDE, seen, item, position)
                self.assertIs(found, expected)

    def test_the_reasons(self):
        for k, forest in enumerate((A, P, star_forest(9), mixed_forest(20, 1, 0.7), (3, []))):
            before, found = some_observations(forest, k)
            for seen in found:
                why = first_conflict_by(forest, before, seen)
                moved = strays_by(forest, before, seen)
                self.check_reason(partial.certain, [forest, before, seen], why)
                self.check_reason(partial.share_given, [forest, before, seen, before[0], 0], why)
                self.check_reason(partial.demands, [forest, before, seen],
                                  ("moved", moved[0]) if moved else None)
            after = shuffled(before, k)
            self.check_reason(outcomes.outcome_number, [forest, before, after], reason(forest, before, after))

    def check_reason(self, function, arguments, expected):
        raised = None
        try:
            function(*arguments)
        except NotReached as error:
            self.assertIs(type(error), NotReached)
            raised = error.reason
        self.assertEqual(raised, expected)

    def test_these_raise_no_not_reached(self):
        for seen in (MOVED, LOOP):
            self.assertIs(partial.fits(A, ABCDE, seen), False)
            self.assertEqual(partial.fitting_count(A, ABCDE, seen), 0)
            self.assertIsNone(partial.least_fitting(A, ABCDE, seen))
            self.assertIsNotNone(partial.conflict(A, ABCDE, seen))
            self.assertIs(partial.shows_conflict(A, ABCDE, seen, None), False)


class Independence(StaysApart, unittest.TestCase):
    def all_calls(self):
        found = []
        for k, forest in enumerate((A, P, (1, []), (4, []), path_forest(2), star_forest(9), mixed_forest(20, 1, 0.7))):
            before, observations = some_observations(forest, k)
            for seen in observations[:6]:
                found += calls(forest, before, seen, k)
        for seen in (MOVED, LOOP, list("abcde")):
            found += calls(A, list("abcde"), list(seen), 4)
            found += [(partial.shows_conflict, [A, list("abcde"), list(seen), thing])
                      for thing in (("loop", 1, [0, 2]), ("loop", 1, [2, 0]), ("moved", 4), [["moved"], 4])]
        return found

    def test_any_object_stays(self):
        for thing in odd_objects():
            kept = repr(thing)
            for seen in (MOVED, LOOP, [None] * 5):
                partial.shows_conflict(A, ABCDE, seen, thing)
            for function in SEEN_FUNCTIONS:
                error_of(function, A, ABCDE, thing, *[None, "a", 0][:len(names_of(function)) - 3])
            self.assertEqual(repr(thing), kept)

    def test_lists_of_different_functions_are_different(self):
        forest = mixed_forest(14, 2)
        before = items_for(14)
        seen = masked(after_by(before, shuffled(forest[1], 1)), range(0, 14, 3))
        kept = [(arguments, answer_of(function, arguments)) for function, arguments in calls(forest, before, seen, 2)]
        found = [part for _, answer in kept for part in lists_inside(answer)]
        found += lists_inside([forest, before, seen])
        self.assertEqual(len(set(id(part) for part in found)), len(found))

    def test_errors_do_not_share_their_reasons(self):
        arguments = [A, ABCDE, LOOP]
        reasons = [answer_of(partial.certain, arguments), partial.conflict(*arguments),
                   answer_of(partial.share_given, arguments + ["a", 0]), answer_of(partial.certain, arguments)]
        self.assertEqual(reasons, [("loop", 1, [0, 2])] * 4)
        self.assertEqual(len(set(id(reason[2]) for reason in reasons)), 4)
        kept = copy.deepcopy(reasons[1:])
        reasons[0][2].append(7)
        self.assertEqual(reasons[1:], kept)
        self.assertEqual(partial.conflict(*arguments), kept[0])


if __name__ == "__main__":
    unittest.main()
