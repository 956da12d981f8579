"""The general rules for turns, judge and precede: errors, and lists that stay apart."""

import copy
import inspect
import unittest

from onceswapped import judge, precede, turns
from onceswapped.errors import (
    NoArrangement, NoEdge, NoForest, NoOrder, NotReached, NoTurns, SwapError)
from tests.oracle import after_by, arranged, some_order, turns_by
from tests.rules import ABCDE, AFTERS, FORESTS, ITEMS, StaysApart, answer_of, check_errors, names_of
from tests.samples import (
    A, BIG, P, bad_arrangements, bad_orders, error_of, items_for, lists_inside, mixed_forest,
    odd_objects, path_forest, shuffled, star_forest)

FUNCTIONS = [
    turns.is_turns, turns.turns_of_order, turns.after_turns, turns.order_of_turns, judge.can_be,
    judge.reason, judge.shows, judge.turns_of, precede.must_precede, precede.precedes,
    precede.first_edges, precede.last_edges, precede.least_order, precede.orders_counted,
    precede.order_fits, precede.exchanged, precede.left_out]
RAISE_NOT_REACHED = (
    judge.turns_of, precede.must_precede, precede.precedes, precede.first_edges, precede.last_edges,
    precede.least_order, precede.orders_counted, precede.exchanged, precede.left_out)
WITH_AFTER = [function for function in FUNCTIONS if "after" in inspect.signature(function).parameters]
WITH_EDGE = (precede.precedes, precede.exchanged, precede.left_out)

# For every argument the values that are tried: what is wrong with each of them, if anything.
EDGES = [((0, 1), None), ((1, 3), None), ((1, 0), NoEdge), ((0, 2), NoEdge), ((-1, 0), NoEdge),
         ((4, 5), NoEdge), ((BIG, BIG), NoEdge)]
ORDERS = [(A[1], None), (tuple(A[1]), NoOrder), (A[1][1:], NoOrder), ([(1, 0), (1, 2), (1, 3)], NoOrder),
          (None, NoOrder)]
TURNS = [([[1], [0, 2, 3], [1], [1], []], None), ([[1], [0, 2, 3], [1], [1]], NoTurns),
         ([[1], [0, 2, 2], [1], [1], []], NoTurns), (((1,), (0, 2, 3), (1,), (1,), ()), NoTurns),
         (None, NoTurns)]
THINGS = [(None, None), (("ring", [0]), None), ([], None)]
CHOICES = {"forest": FORESTS, "items": ITEMS, "before": ITEMS, "after": AFTERS, "edge": EDGES, "one": EDGES,
           "other": EDGES, "order": ORDERS, "turns": TURNS, "thing": THINGS}


def valid_arguments(forest, seed):
    """One valid value for every name of an argument."""
    before = items_for(forest[0])
    order = shuffled(forest[1], seed)
    found = {"forest": forest, "items": before, "before": list(before), "order": order,
             "after": after_by(before, order), "turns": turns_by(forest, order)}
    if forest[1]:
        found.update(edge=forest[1][0], one=order[0], other=order[-1])
    return found


def things_for(function, arguments):
    """Objects to ask about: of the right form first."""
    if function is turns.is_turns:
        return [copy.deepcopy(arguments["turns"]), None]
    if function is precede.order_fits:
        return [copy.deepcopy(arguments["order"]), some_order(arguments["turns"], 5), []]
    return [("ring", [0]), ("moved", 0), ("cross", (0, 1), (2, 3)), None]


def calls(forest, seed):
    """Calls of all functions with valid arguments, as pairs of a function and its arguments."""
    found = []
    for function in FUNCTIONS:
        arguments = valid_arguments(forest, seed)
        names = names_of(function)
        if not forest[1] and function in WITH_EDGE:
            continue
        if "thing" in names:
            for thing in things_for(function, arguments):
                found.append((function, [thing if name == "thing" else arguments[name] for name in names]))
        else:
            found.append((function, [arguments[name] for name in names]))
    return found


def unreached_calls(forest, before, after):
    """Calls with an arrangement after that is no outcome."""
    found = []
    for function in (judge.reason,) + RAISE_NOT_REACHED:
        if forest[1] or function not in WITH_EDGE:
            edges = forest[1][:1] * (len(names_of(function)) - 3)
            found.append((function, [forest, before, after] + edges))
    return found


CASES = (A, P, (1, []), (3, []), path_forest(2), star_forest(9), mixed_forest(20, 1, 0.7))


class Errors(unittest.TestCase):
    def test_the_first_invalid_argument_decides(self):
        for function in FUNCTIONS:
            check_errors(self, function, CHOICES, function in RAISE_NOT_REACHED)

    def test_by_name(self):
        some = {name: choices[:4] for name, choices in CHOICES.items()}
        for function in FUNCTIONS:
            check_errors(self, function, some, function in RAISE_NOT_REACHED, by_name=True)

    def test_other_objects(self):
        for function in FUNCTIONS:
            names = names_of(function)
            for at, name in enumerate(names):
                wrong = CHOICES[name][-1][1]
                for thing in [] if name in ("thing", "edge", "one", "other") else odd_objects():
                    values = [CHOICES[other][0][0] for other in names]
                    values[at] = thing
                    self.assertIs(error_of(function, *values), wrong, (function, name, thing))

    def test_everything_wrong_at_once(self):
        for function in FUNCTIONS:
            for thing in odd_objects():
                values = [thing if name not in ("edge", "one", "other") else (1, 0)
                          for name in names_of(function)]
                self.assertIs(error_of(function, *values), NoForest)

    def test_bad_arrangements(self):
        for forest in (A, (2, [(0, 1)]), mixed_forest(40, 8)):
            arguments = valid_arguments(forest, 3)
            for function in WITH_AFTER:
                for thing in bad_arrangements(arguments["before"])[::3]:
                    for name in ("before", "after"):
                        values = dict(arguments, thing=None)
                        values[name] = thing
                        chosen = [values[key] for key in names_of(function)]
                        self.assertIs(error_of(function, *chosen), NoArrangement)

    def test_after_with_other_items(self):
        for forest in (A, (2, [(0, 1)]), path_forest(40)):
            for function in WITH_AFTER:
                for at in {0, forest[0] // 2, forest[0] - 1}:
                    values = dict(valid_arguments(forest, 4), thing=None)
                    values["after"][at] = "other"
                    chosen = [values[key] for key in names_of(function)]
                    self.assertIs(error_of(function, *chosen), NoArrangement)
                    values["before"], values["after"] = values["after"], values["before"]
                    chosen = [values[key] for key in names_of(function)]
                    self.assertIs(error_of(function, *chosen), NoArrangement)

    def test_bad_orders(self):
        for forest in (A, star_forest(7), mixed_forest(12, 4, 0.7)):
            for order in bad_orders(forest[1]):
                self.assertIs(error_of(turns.turns_of_order, forest, order), NoOrder)

    def test_not_reached_keeps_the_reason(self):
        for after, _ in AFTERS[1:4]:
            why = judge.reason(A, ABCDE, after)
            for function in RAISE_NOT_REACHED:
                edges = [(0, 1)] * (len(names_of(function)) - 3)
                with self.assertRaises(SwapError) as caught:
                    function(A, ABCDE, after, *edges)
                self.assertIs(type(caught.exception), NotReached)
                self.assertEqual(caught.exception.reason, why)

    def test_the_three_forms_of_a_reason_are_raised(self):
        expected = (("ring", [0]), ("ring", [0, 1]), ("moved", 0))
        self.assertEqual(tuple(judge.reason(A, ABCDE, after) for after, _ in AFTERS[1:4]), expected)
        crossed = arranged(list("abcd"), [[0, 2, 1, 3]])
        self.assertEqual(answer_of(judge.turns_of, [P, list("abcd"), crossed]), ("cross", (0, 1), (2, 3)))

    def test_these_raise_no_not_reached(self):
        for after, _ in AFTERS[1:4]:
            self.assertIs(judge.can_be(A, ABCDE, after), False)
            self.assertIs(precede.order_fits(A, ABCDE, after, A[1]), False)
            self.assertIs(judge.shows(A, ABCDE, after, None), False)


class Independence(StaysApart, unittest.TestCase):
    def unreached(self):
        found = unreached_calls(P, list("abcd"), list("acdb"))
        found += unreached_calls(P, list("abcd"), list("dcab"))
        found += unreached_calls(path_forest(12), items_for(12), items_for(12))
        return found + unreached_calls((3, []), ["a", "b", "c"], ["b", "a", "c"])

    def all_calls(self):
        found = [call for k, forest in enumerate(CASES) for call in calls(forest, k)]
        return found + self.unreached()

    def test_any_object_stays(self):
        for thing in odd_objects():
            kept = repr(thing)
            turns.is_turns(P, thing)
            for after in ("cadb", "acdb"):
                judge.shows(P, list("abcd"), list(after), thing)
                precede.order_fits(P, list("abcd"), list(after), thing)
            self.assertEqual(repr(thing), kept)

    def test_lists_of_different_functions_are_different(self):
        for k, forest in enumerate(CASES):
            kept = [(arguments, answer_of(function, arguments)) for function, arguments in calls(forest, k)]
            found = [part for _, answer in kept for part in lists_inside(answer)]
            found += lists_inside(forest)
            self.assertEqual(len(set(id(part) for part in found)), len(found))

    def test_errors_do_not_share_their_reasons(self):
        arguments = [P, list("abcd"), list("acdb")]
        reasons = [answer_of(judge.turns_of, arguments), judge.reason(*arguments),
                   answer_of(precede.least_order, arguments), answer_of(judge.turns_of, arguments)]
        self.assertEqual(reasons, [("ring", [0])] * 4)
        self.assertEqual(len(set(id(reason[1]) for reason in reasons)), 4)
        reasons[0][1].append(7)
        self.assertEqual(reasons[1:], [("ring", [0])] * 3)
        self.assertEqual(answer_of(judge.turns_of, arguments), ("ring", [0]))


if __name__ == "__main__":
    unittest.main()
