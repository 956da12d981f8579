import unittest
from itertools import permutations, product

from onceswapped.partial import conflict, fits, shows_conflict
from tests.observing import masked, some_observations
from tests.oracle import after_by, read_from
from tests.partial_oracle import (
    conflict_certificates, demanded, first_conflict_by, forms_by_position, loops_by, nearby_by,
    strays_by)
from tests.samples import (
    A, BIG, P, all_forests, items_for, mixed_forest, nested, odd_objects, path_forest, shuffled,
    sized_forests, star_forest)

ABCDE = list("abcde")
LOOP = ["c", None, "a", None, None]
# 0 has the neighbours 1, 2, 3 and 4; behind 1, 2 and 3 there is one more position each. 8 and 9 are a tree.
HUB = (10, [(0, 1), (0, 2), (0, 3), (0, 4), (1, 5), (2, 6), (3, 7), (8, 9)])
ITEMS = list("abcdefghij")
# 0 has two branches of three positions, 1 to 3 and 4 to 6.
FORK = (7, [(0, 1), (0, 4), (1, 2), (1, 3), (4, 5), (4, 6)])


def seen_at(n, **ends):
    """The observation of items at the positions given for them."""
    seen = [None] * n
    for item, end in ends.items():
        seen[end] = item
    return seen


def candidates(forest, before, seen):
    """Certificates of the right forms, true or not."""
    n = forest[0]
    found = [("moved", p) for p in range(-1, n + 1)]
    found += [(word, p, x) for word in ("from", "into") for p in range(-1, n + 1) for x in range(-1, n + 1)]
    pairs = demanded(forest, before, seen)
    for p in range(n):
        rows = loops_by(pairs[p]) + [[p], [0], [p] + nearby_by(forest)[p], nearby_by(forest)[p]]
        rows += [list(pair) for pair in pairs[p]]
        rows += [row + row for row in loops_by(pairs[p])] + [row[::-1] for row in loops_by(pairs[p])]
        found += [("loop", q, row) for row in rows for q in (p, (p + 1) % n)]
        found += [("loop", p, row[1:]) for row in rows] + [("loop", p, row + row[:1]) for row in rows]
    return found


class Examples(unittest.TestCase):
    def test_of_the_running_text(self):
        self.assertEqual(conflict(P, list("abcd"), [None, None, "b", "a"]), ("into", 1, 2))
        self.assertEqual(conflict(A, ABCDE, LOOP), ("loop", 1, [0, 2]))
        self.assertIs(shows_conflict(A, ABCDE, LOOP, ("loop", 1, [2, 0])), True)
        self.assertIsNone(conflict(A, ABCDE, [None, None, "a", None, None]))

    def test_by_name(self):
        self.assertEqual(conflict(seen=LOOP, before=ABCDE, forest=A), ("loop", 1, [0, 2]))
        thing = ("loop", 1, [2, 0])
        self.assertIs(shows_conflict(thing=thing, seen=LOOP, before=ABCDE, forest=A), True)


class WhichConflict(unittest.TestCase):
    def check(self, forest, seen, expected):
        before = items_for(forest[0]) if forest is not HUB else ITEMS
        self.assertEqual(conflict(forest, before, seen), expected)
        self.assertEqual(first_conflict_by(forest, before, seen), expected)
        self.assertIs(fits(forest, before, seen), expected is None)

    def hub(self, expected, **ends):
        self.check(HUB, seen_at(10, **ends), expected)

    def test_moved(self):
        self.hub(("moved", 0), a=8, i=9)
        self.hub(("moved", 8), i=0, j=9)
        self.hub(("moved", 8), i=7, j=6)
        self.hub(("moved", 4), i=1, e=8, h=9)
        self.check((3, []), [None, "a", None], ("moved", items_for(3).index("a")))

    def test_from(self):
        self.hub(("from", 0, 1), b=2, f=3)
        self.hub(("from", 0, 1), b=2, f=3, c=1, g=5)
        self.hub(("from", 0, 2), c=1, g=3)
        self.hub(("from", 0, 2), c=1, g=3, d=4, h=6)

    def test_into(self):
        self.hub(("into", 0, 1), c=1, d=5)
        self.hub(("into", 0, 2), a=2, b=6)
        self.hub(("into", 0, 2), a=2, b=6, c=7, e=3)
        self.hub(("into", 0, 1), d=1, c=5, b=2, e=6)

    def test_loop(self):
        self.hub(("loop", 0, [1, 2]), b=2, c=1)
        self.hub(("loop", 0, [1, 2]), b=2, c=1, d=4, e=3)
        self.hub(("loop", 0, [1, 4, 2]), b=4, e=2, c=1)
        self.hub(("loop", 0, [2, 4, 3]), c=4, e=3, d=2, b=0)
        self.hub(("loop", 0, [0, 1, 2]), a=1, b=2, c=0)
        self.hub(("loop", 0, [0]), a=0)
        self.hub(("loop", 0, [0]), a=0, b=2, c=1)
        self.hub(("loop", 8, [8]), i=8)
        self.hub(("loop", 9, [9]), j=9)

    def test_the_least_row_is_not_the_shortest(self):
        self.hub(("loop", 0, [0, 4, 3]), a=4, e=3, d=0, b=2, c=1)

    def test_a_full_circle_is_no_loop(self):
        self.hub(None, a=5, b=6, c=7, d=4, e=0)
        self.hub(None, i=9, j=8)
        self.hub(None, a=5, b=6, c=7, d=4)
        for n in range(2, 41):
            for middle in {0, n // 2, n - 1}:
                forest = star_forest(n, middle)
                after = after_by(items_for(n), shuffled(forest[1], n))
                self.check(forest, after, None)

    def test_the_first_form_that_applies(self):
        # At 0: from 1 and from 2, into 3; at 8 a loop.
        self.hub(("from", 0, 1), b=3, f=2, c=7, g=4, i=8)
        self.hub(("into", 0, 3), b=3, c=7, i=8)
        self.hub(("loop", 0, [1, 2]), b=2, c=1, i=8)
        self.hub(("loop", 8, [8]), a=3, i=8)
        self.hub(("moved", 9), b=3, f=2, c=7, g=4, i=8, j=0)
        self.hub(("moved", 0), b=3, f=2, c=7, a=9, j=8)
        # At one position an entry that is into twice is no matter if one is from twice.
        self.hub(("from", 0, 3), d=2, h=1, c=5)

    def test_the_least_position(self):
        # Both items go the same way for a while, and meet or part at a position each.
        before = items_for(7)
        seen = [None] * 7
        seen[5], seen[6] = before[2], before[3]
        self.check(FORK, seen, ("into", 1, 0))
        seen = [None] * 7
        seen[2], seen[3] = before[0], before[4]
        self.check(FORK, seen, ("into", 0, 1))
        seen = [None] * 7
        seen[0], seen[1] = before[4], before[5]
        self.check(FORK, seen, ("from", 0, 4))

    def test_every_form_in_samples(self):
        counts = {"moved": 0, "from": 0, "into": 0, "loop": 0, None: 0, "several": 0, "long": 0}
        for k, forest in enumerate(sized_forests()):
            before, found = some_observations(forest, k + 50)
            for seen in found:
                expected = first_conflict_by(forest, before, seen)
                self.assertEqual(conflict(forest, before, seen), expected)
                if expected is None or expected[0] == "moved":
                    counts[expected and "moved"] += 1
                    continue
                counts[expected[0]] += 1
                at_position = forms_by_position(forest, before, seen)[expected[1]]
                counts["several"] += sum(map(bool, at_position)) > 1
                counts["long"] += expected[0] == "loop" and len(expected[2]) > 1
        self.assertTrue(all(many > 20 for many in counts.values()), counts)

    def test_every_observation_of_a_few_forests(self):
        for forest in all_forests(4)[::5]:
            before = items_for(4)
            for many in (3, 4):
                for chosen in permutations(before, many):
                    seen = list(chosen) + [None] * (4 - many)
                    expected = first_conflict_by(forest, before, seen)
                    self.assertEqual(conflict(forest, before, seen), expected)


class ShowsTrue(unittest.TestCase):
    def test_what_conflict_returns(self):
        for k, forest in enumerate(sized_forests()[::2]):
            before, found = some_observations(forest, k + 9)
            for seen in found:
                why = conflict(forest, before, seen)
                if why is not None:
                    self.assertIs(shows_conflict(forest, before, seen, why), True)

    def test_all_true_ones(self):
        shown = 0
        for k, forest in enumerate(sized_forests()[::4]):
            before, found = some_observations(forest, k + 31)
            for seen in found:
                for thing in shuffled(conflict_certificates(forest, before, seen), k)[:6]:
                    self.assertIs(shows_conflict(forest, before, seen, thing), True, thing)
                    shown += 1
        self.assertGreater(shown, 1000)

    def test_true_ones_and_others(self):
        forests = [A, P, HUB, FORK, star_forest(6, 2), mixed_forest(7, 1), mixed_forest(8, 2, 0.7)]
        for k, forest in enumerate(forests):
            before, found = some_observations(forest, k + 70)
            for seen in found[::2]:
                true = conflict_certificates(forest, before, seen)
                for thing in true + candidates(forest, before, seen):
                    expected = thing in true
                    self.assertIs(shows_conflict(forest, before, seen, thing), expected, (seen, thing))

    def test_with_an_item_in_another_tree(self):
        seen = seen_at(10, b=3, f=2, c=7, g=4, i=0, e=8, j=9, a=6)
        self.assertEqual(conflict(HUB, ITEMS, seen), ("moved", 4))
        for thing in (("moved", 4), ("moved", 8), ("from", 0, 1), ("from", 0, 2), ("into", 0, 2),
                      ("into", 0, 3), ("loop", 9, [9])):
            self.assertIs(shows_conflict(HUB, ITEMS, seen, thing), True, thing)
        for thing in (("moved", 0), ("moved", 9), ("from", 0, 0), ("from", 0, 3), ("into", 0, 1),
                      ("loop", 8, [8]), ("from", 8, 9)):
            self.assertIs(shows_conflict(HUB, ITEMS, seen, thing), False, thing)

    def test_a_row_begun_at_any_entry(self):
        seen = seen_at(10, b=4, e=2, c=1, i=0)
        for row in ([1, 4, 2], [4, 2, 1], [2, 1, 4]):
            self.assertIs(shows_conflict(HUB, ITEMS, seen, ("loop", 0, row)), True)
            self.assertIs(shows_conflict(HUB, ITEMS, seen, ("loop", 0, row[::-1])), False)

    def test_a_row_begun_at_any_entry_with_an_item_in_another_tree(self):
        seen = seen_at(10, b=4, e=2, c=1, a=8, j=7)
        self.assertEqual(conflict(HUB, ITEMS, seen), ("moved", 0))
        for row in ([1, 4, 2], [4, 2, 1], [2, 1, 4]):
            self.assertIs(shows_conflict(HUB, ITEMS, seen, ("loop", 0, row)), True)
            self.assertIs(shows_conflict(HUB, ITEMS, seen, ("loop", 0, row[::-1])), False)
        self.assertIs(shows_conflict(HUB, ITEMS, seen, ("moved", 9)), True)

    def test_another_position_and_another_row(self):
        seen = seen_at(10, b=2, c=1, d=4, e=3, i=8, j=9)
        for thing in (("loop", 0, [1, 2]), ("loop", 0, [2, 1]), ("loop", 0, [3, 4]), ("loop", 0, [4, 3]),
                      ("loop", 8, [8]), ("loop", 9, [9])):
            self.assertIs(shows_conflict(HUB, ITEMS, seen, thing), True, thing)


class ShowsFalse(unittest.TestCase):
    # From 1 and into 3 twice at 0, a loop of 2 and 4 there; at 8 and 9 a loop each.
    SEEN = seen_at(10, b=3, f=7, c=4, e=6, i=8, j=9)

    def refused(self, *things, seen=None):
        for thing in things:
            found = shows_conflict(HUB, ITEMS, seen or self.SEEN, thing)
            self.assertIs(found, False, thing)

    def accepted(self, *things, seen=None):
        for thing in things:
            self.assertIs(shows_conflict(HUB, ITEMS, seen or self.SEEN, thing), True, thing)

    def test_the_true_ones(self):
        self.assertEqual(sorted(map(str, conflict_certificates(HUB, ITEMS, self.SEEN))), sorted(map(str, [
            ("into", 1, 0), ("from", 3, 0), ("loop", 0, [2, 4]), ("loop", 0, [4, 2]), ("loop", 8, [8]),
            ("loop", 9, [9])])))
        self.accepted(("into", 1, 0), ("from", 3, 0), ("loop", 0, [2, 4]), ("loop", 8, [8]))

    def test_positions(self):
        for p in (-1, -10, 10, 11, 40, BIG, -BIG, None, "1", [1], (1,), "", 1000):
            self.refused(("into", p, 0), ("into", 1, p), ("from", p, 0), ("from", 3, p), ("loop", p, [8]),
                         ("loop", p, [2, 4]), ("loop", 8, [p]), ("loop", 0, [p, 4]), ("moved", p))

    def test_another_place(self):
        self.refused(("into", 0, 1), ("into", 1, 1), ("into", 1, 5), ("into", 3, 0), ("from", 1, 0),
                     ("from", 3, 3), ("from", 0, 3), ("loop", 1, [2, 4]), ("loop", 2, [2, 4]), ("loop", 9, [8]),
                     ("loop", 4, [4, 2]), ("moved", 0), ("moved", 1), ("moved", 8), ("moved", 9))

    def test_the_same_pair_twice_is_one_pair(self):
        # Both items go from 1 on to 3, by the pair (1, 3) at 0.
        self.assertEqual(demanded(HUB, ITEMS, self.SEEN)[0].count((1, 3)), 1)
        self.refused(("from", 0, 1), ("into", 0, 3))

    def test_rows(self):
        self.refused(("loop", 0, []), ("loop", 0, [2]), ("loop", 0, [4]), ("loop", 0, [2, 4, 2]),
                     ("loop", 0, [2, 4, 2, 4]), ("loop", 0, [2, 2]), ("loop", 0, [1, 3]), ("loop", 0, [1]),
                     ("loop", 0, [0]), ("loop", 0, [0, 2, 4]), ("loop", 8, [8, 8]), ("loop", 8, [9]),
                     ("loop", 8, [8, 9]), ("loop", 8, [9, 8]), ("loop", 0, [2, 4, 1, 3]), ("loop", 0, [2, 4, 5]))

    def test_rows_of_another_kind(self):
        self.refused(("loop", 0, (2, 4)), ("loop", 8, (8,)), ("loop", 8, 8), ("loop", 8, "8"), ("loop", 8, ["8"]),
                     ("loop", 8, [[8]]), ("loop", 8, [(8,)]), ("loop", 8, None), ("loop", 8, [None]),
                     ("loop", 8, ()), ("loop", 0, [[2, 4]]), ("loop", 0, [(2, 4)]), ("loop", 0, [(2, 4), (4, 2)]),
                     ("loop", 0, 2, 4), ("loop", 0, [2, 4], None), ("loop", [0], [2, 4]), ("loop", 0, [[2], [4]]))
        self.refused(*[("loop", p, thing) for thing in odd_objects() for p in (0, 1, 8)])
        self.refused(*[("loop", thing, [2, 4]) for thing in odd_objects() if thing != 0 or thing is False])

    def test_a_row_of_all_entries(self):
        seen = seen_at(10, a=5, b=6, c=7, d=4, e=0, i=9, j=8)
        self.assertIsNone(conflict(HUB, ITEMS, seen))
        for row in (ring for k in range(5) for ring in [read_from([0, 1, 2, 3, 4], k)]):
            self.refused(("loop", 0, row), ("loop", 0, row[1:]), ("loop", 0, row + row[:1]), seen=seen)
        self.refused(("loop", 8, [8, 9]), ("loop", 8, [9, 8]), ("loop", 9, [8, 9]), seen=seen)
        # It is none either if other positions have a conflict.
        other = seen_at(10, a=5, b=6, c=7, d=4, e=0, i=8)
        self.refused(("loop", 0, [0, 1, 2, 3, 4]), seen=other)
        self.accepted(("loop", 8, [8]), seen=other)

    def test_a_position_without_edges(self):
        forest = (3, [(0, 1)])
        for seen in (["a", None, "c"], [None, None, "c"]):
            self.assertIs(shows_conflict(forest, ["a", "b", "c"], seen, ("loop", 2, [2])), False)
        self.assertIs(shows_conflict(forest, ["a", "b", "c"], ["a", None, "c"], ("loop", 0, [0])), True)

    def test_booleans(self):
        forest, before = path_forest(4), list("abcd")
        seen = [None, "b", "a", None]
        self.assertEqual(conflict_certificates(forest, before, seen), [("loop", 1, [1])])
        self.assertIs(shows_conflict(forest, before, seen, ("loop", 1, [1])), True)
        for thing in (("loop", True, [1]), ("loop", 1, [True]), ("loop", True, [True])):
            self.assertIs(shows_conflict(forest, before, seen, thing), False)
        self.refused(("into", True, 0), ("into", 1, False), ("into", True, False), ("from", 3, False),
                     ("loop", False, [2, 4]))
        forest, seen = (3, [(1, 2)]), ["b", "a", None]
        for p in (0, 1):
            self.assertIs(shows_conflict(forest, ["a", "b", "c"], seen, ("moved", p)), True)
            self.assertIs(shows_conflict(forest, ["a", "b", "c"], seen, ("moved", bool(p))), False)

    def test_words(self):
        for word in ("move", "Moved", " into", "into ", "INTO", "in", "on", "", None, 0, True, ("into",), ["into"],
                     "ring", "cross", "moved", "loop"):
            self.refused((word, 1, 0), (word, 3, 0) if word != "from" else (None, 3, 0))
        for word in ("loops", "Loop", "LOOP", "loo", "", None, 1, ["loop"], "ring", "moved", "from", "into"):
            self.refused((word, 8, [8]), (word, 0, [2, 4]))
        self.refused(("from", 1, 0), ("into", 3, 0))

    def test_entries_more_or_less(self):
        seen = seen_at(10, a=8, f=7, b=3)
        self.accepted(("moved", 0), ("into", 1, 0), ("from", 3, 0), seen=seen)
        self.refused(("moved",), ("moved", 0, 0), ("moved", 0, None), (0,), (0, "moved"), ("moved", (0,)),
                     ("into", 1), ("into", 0), ("into", 1, 0, 0), ("into", 1, 0, None), (1, 0), ("into", (1, 0)),
                     ("from", 3), ("from", 3, 0, None), ("into",), ("from",), ("loop",), (1, "into", 0), (),
                     (1, 0, "into"), ("into", "from", 1, 0), seen=seen)
        self.refused(("loop", 8), ("loop", 8, [8], [8]), ("loop", [8]), ("loop", 8, 8, 8), (8, [8]),
                     ("loop", [8], 8), ([8], 8, "loop"))

    def test_a_list_in_place_of_the_tuple(self):
        self.refused(["into", 1, 0], ["from", 3, 0], ["loop", 8, [8]], [("into", 1, 0)], (("into", 1, 0),),
                     "into 1 0", str(("into", 1, 0)), "into")
        self.refused(["moved", 0], [("moved", 0)], (("moved", 0),), seen=seen_at(10, a=8))

    def test_other_objects(self):
        self.refused(*odd_objects())
        for kind, depth in product((list, tuple), range(1, 26)):
            deep = nested(kind, depth)
            self.refused(deep, ("moved", deep), ("into", 1, deep), ("into", deep, 0), (deep, 1, 0),
                         ("loop", 8, deep), ("loop", 0, [deep, 4]), ("loop", deep, [8]), (deep, deep, deep))
        self.refused(("loop", 0, [2, 4] * 198), ("loop", 8, [8] * 397), ("into",) * 400, ("into", 1, 0) * 133,
                     ["into", 1, 0] * 133, ("loop", 0, list(range(397))), ("loop", 0, [None] * 397),
                     (("into", 1, 0),) * 100, ("into", 1, [0] * 397), ("moved", (0,) * 398))

    def test_all_rows_of_a_few_entries(self):
        forest, before = star_forest(5), items_for(5)
        seen = masked(after_by(before, shuffled(forest[1], 2)), {1, 2})
        seen[3], seen[4] = [item for item in before if item not in seen][:2]
        for trial in (seen, shuffled(before, 3), [before[0]] + [None] * 4):
            true = conflict_certificates(forest, before, trial)
            for size in range(1, 6):
                for row in permutations(range(5), size):
                    for position in range(5):
                        thing = ("loop", position, list(row))
                        found = shows_conflict(forest, before, trial, thing)
                        self.assertIs(found, thing in true, thing)

    def test_nothing_is_shown_where_something_fits(self):
        for k, forest in enumerate(sized_forests()[::20] + [HUB, FORK]):
            before = items_for(forest[0])
            after = after_by(before, shuffled(forest[1], k))
            for seen in (after, masked(after, {0}), [None] * forest[0]):
                self.assertEqual(strays_by(forest, before, seen), [])
                for thing in shuffled(candidates(forest, before, seen), 1)[:60]:
                    self.assertIs(shows_conflict(forest, before, seen, thing), False, thing)


if __name__ == "__main__":
    unittest.main()
