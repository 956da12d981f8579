"""The general rules: what several tests of errors and of lists that stay apart use."""

import copy
import inspect
from itertools import product

from onceswapped.errors import NoArrangement, NoForest, NotReached
from tests.samples import A, error_of, lists_inside

ABCDE = list("abcde")
REACHED = list("bdace")

# The values that are tried for an argument: what is wrong with each of them, if anything.
FORESTS = [(A, None), (None, NoForest), (5, NoForest), ((5, A[1], None), NoForest),
           ((2, [(1, 0)]), NoForest), ((5, [(0, 1), (0, 2), (1, 2)]), NoForest), ((True, []), NoForest)]
ITEMS = [(ABCDE, None), (tuple("abcde"), NoArrangement), ("abcde", NoArrangement),
         (list("abcd"), NoArrangement), (list("abcdd"), NoArrangement), (None, NoArrangement)]
AFTERS = [(REACHED, None), (list("abcde"), NotReached), (list("bacde"), NotReached),
          (list("ebcda"), NotReached), (list("bdacf"), NoArrangement), (list("bdac"), NoArrangement),
          (list("bdaca"), NoArrangement), (tuple("bdace"), NoArrangement), (None, NoArrangement)]


def names_of(function):
    return list(inspect.signature(function).parameters)


def answer_of(function, arguments):
    """What a call returns, or the reason that it raises."""
    try:
        return function(*arguments)
    except NotReached as error:
        return error.reason


def expected_error(errors, may_not_reach):
    """The error that decides: the first one, but NotReached comes after all others."""
    others = [error for error in errors if error not in (None, NotReached)]
    if others:
        return others[0]
    return NotReached if NotReached in errors and may_not_reach else None


def check_errors(test, function, choices, may_not_reach, by_name=False):
    """Try all combinations of the values that are chosen for the arguments of a function."""
    names = names_of(function)
    for chosen in product(*[choices[name] for name in names]):
        values = [value for value, _ in chosen]
        expected = expected_error([error for _, error in chosen], may_not_reach)
        if by_name:
            named = dict(reversed(list(zip(names, values))))
            test.assertIs(error_of(function, **named), expected, (function, named))
        else:
            test.assertIs(error_of(function, *values), expected, (function, values))


class StaysApart:
    """The rules for lists, for all calls (a function and its arguments) that all_calls returns."""

    def test_arguments_stay(self):
        for function, arguments in self.all_calls():
            kept = repr(arguments)
            before = [id(part) for part in lists_inside(arguments)]
            answer_of(function, arguments)
            self.assertEqual(repr(arguments), kept)
            self.assertEqual([id(part) for part in lists_inside(arguments)], before)

    def test_arguments_by_name(self):
        for function, arguments in self.all_calls():
            named = dict(zip(names_of(function), arguments))
            turned = {name: named[name] for name in reversed(list(named))}
            try:
                found = function(**turned)
            except NotReached as error:
                found = error.reason
            self.assertEqual(found, answer_of(function, arguments))

    def test_returned_lists_are_new(self):
        for function, arguments in self.all_calls():
            answers = [answer_of(function, arguments) for _ in range(3)]
            found = lists_inside([arguments, answers])
            self.assertEqual(len(set(id(part) for part in found)), len(found), function)

    def test_changed_answers_change_nothing(self):
        for function, arguments in self.all_calls():
            first = answer_of(function, arguments)
            kept = copy.deepcopy(first)
            for part in lists_inside(first):
                part.append("more")
                part.reverse()
            self.assertEqual(answer_of(function, arguments), kept)

    def test_changed_arguments_change_no_earlier_answer(self):
        for function, arguments in self.all_calls():
            changing = copy.deepcopy(arguments)
            found = answer_of(function, changing)
            kept = copy.deepcopy(found)
            for part in lists_inside(changing):
                part.append("more")
                part.reverse()
            self.assertEqual(found, kept)
            self.assertEqual(answer_of(function, arguments), kept)
