import unittest
from itertools import combinations, permutations

from onceswapped.errors import NotReached
from onceswapped.judge import can_be, reason, shows, turns_of
from tests.oracle import (
    after_by, arranged, certificates, first_certificate, homes, inverse, moves_by, read_from,
    rings_by, shown, turns_by)
from tests.samples import (
    A, BIG, P, items_for, mixed_forest, nested, odd_objects, path_forest, shuffled, sized_forests,
    star_forest)

ABCD = list("abcd")
# Two paths of four positions, one of three with a gap in its numbers, and a position by itself.
MANY = (12, [(0, 1), (1, 2), (2, 3), (4, 5), (5, 6), (6, 7), (8, 10), (10, 11)])


def trees_by(forest):
    """The trees as ascending lists, in ascending order."""
    return sorted(set(tuple(sorted(home)) for home in homes(forest)))


def outcome_rings(forest, seed):
    """Items, an outcome of theirs, and the rings of its moves."""
    before = items_for(forest[0])
    after = after_by(before, shuffled(forest[1], seed))
    return before, after, rings_by(moves_by(before, after))


def with_two_exchanged(after, p, q):
    found = list(after)
    found[p], found[q] = after[q], after[p]
    return found


def nearly_outcomes(forest, seed):
    """Arrangements that differ little from an outcome; none of them is one."""
    before, after, rings = outcome_rings(forest, seed)
    n = forest[0]
    pairs = list(combinations(range(n), 2))
    found = [with_two_exchanged(after, p, q) for p, q in shuffled(pairs, seed)[:12]]
    for ring in rings:
        if len(ring) > 1:
            others = [other for other in rings if other != ring]
            found.append(arranged(before, others + [ring[1:]]))
            found.append(arranged(before, others + [ring[:2], ring[2:]]))
    return before, [thing for thing in found if thing != after]


def ring_orders(forest, seed):
    """Arrangements in which each tree is one ring, in an order of its positions by chance."""
    before = items_for(forest[0])
    return before, [arranged(before, [shuffled(tree, seed + k) for tree in trees_by(forest)])
                    for k in range(6)]


class Examples(unittest.TestCase):
    def test_can_be(self):
        self.assertIs(can_be(P, ABCD, list("cadb")), True)
        self.assertIs(can_be(P, ABCD, list("abcd")), False)
        self.assertIs(can_be((1, []), ["a"], ["a"]), True)
        self.assertIs(can_be((2, []), ["a", "b"], ["b", "a"]), False)
        self.assertIs(can_be((2, [(0, 1)]), ["a", "b"], ["b", "a"]), True)
        self.assertIs(can_be((2, [(0, 1)]), ["a", "b"], ["a", "b"]), False)

    def test_reason(self):
        self.assertIsNone(reason(P, ABCD, list("cadb")))
        self.assertEqual(reason(P, ABCD, list("acdb")), ("ring", [0]))
        self.assertEqual(reason(P, ABCD, list("dcab")), ("cross", (0, 1), (2, 3)))
        self.assertEqual(reason((2, []), ["a", "b"], ["b", "a"]), ("moved", 0))
        self.assertEqual(reason(A, list("abcde"), list("ebcda")), ("moved", 0))
        self.assertEqual(reason(A, list("abcde"), list("abced")), ("moved", 3))

    def test_shows(self):
        self.assertIs(shows(P, ABCD, list("acdb"), ("ring", [1, 3, 2])), True)
        self.assertIs(shows(P, ABCD, list("acdb"), ("ring", [1, 2, 3])), False)
        self.assertIs(shows(P, ABCD, list("dcab"), ("cross", (2, 3), (0, 1))), True)
        self.assertIs(shows(P, ABCD, list("cadb"), None), False)

    def test_turns_of(self):
        self.assertEqual(turns_of(P, ABCD, list("cadb")), [[1], [2, 0], [1, 3], [2]])
        self.assertEqual(turns_of((1, []), ["a"], ["a"]), [[]])
        with self.assertRaises(NotReached) as caught:
            turns_of(P, ABCD, list("acdb"))
        self.assertIs(type(caught.exception), NotReached)
        self.assertEqual(caught.exception.reason, ("ring", [0]))


class Outcomes(unittest.TestCase):
    def test_all_sizes(self):
        for k, forest in enumerate(sized_forests()):
            before = items_for(forest[0])
            for order in (forest[1], forest[1][::-1], shuffled(forest[1], k)):
                after = after_by(before, order)
                self.check(forest, before, after, turns_by(forest, order))
                back = turns_by(forest, order[::-1])
                self.assertEqual(turns_of(forest, after, before), back)

    def check(self, forest, before, after, turns):
        self.assertIs(can_be(forest, before, after), True)
        self.assertIs(can_be(after=after, before=before, forest=forest), True)
        self.assertIsNone(reason(forest, before, after))
        self.assertIsNone(reason(after=after, before=before, forest=forest))
        self.assertEqual(turns_of(forest, before, after), turns)
        self.assertEqual(turns_of(before=before, forest=forest, after=after), turns)

    def test_r2_neighbours_come_along_the_ring_in_the_order_of_the_turn(self):
        for k, forest in enumerate(sized_forests()):
            before, after, rings = outcome_rings(forest, k + 5)
            turns = turns_of(forest, before, after)
            for ring in rings:
                for p in ring:
                    self.assertEqual([q for q in read_from(ring, p) if q in turns[p]], turns[p])

    def test_r6_the_inverse_moves_have_the_reversed_turns(self):
        for k, forest in enumerate(sized_forests()):
            before, after, _ = outcome_rings(forest, k + 11)
            back = arranged(before, rings_by(inverse(moves_by(before, after))))
            turns = [row[::-1] for row in turns_of(forest, before, after)]
            self.assertEqual(turns_of(forest, before, back), turns)

    def test_no_certificate_is_shown(self):
        for k, forest in enumerate(sized_forests()[::5]):
            before, after, rings = outcome_rings(forest, k)
            things = [("moved", p) for p in range(forest[0])] + [("ring", ring) for ring in rings]
            things += [("cross", e, f) for e, f in combinations(forest[1][:12], 2)]
            for thing in things + odd_objects():
                self.assertIs(shows(forest, before, after, thing), False)


class NearlyOutcomes(unittest.TestCase):
    def check(self, forest, before, after):
        expected = first_certificate(forest, before, after)
        self.assertEqual(reason(forest, before, after), expected)
        self.assertEqual(reason(after=after, forest=forest, before=before), expected)
        self.assertIs(can_be(forest, before, after), expected is None)
        if expected is None:
            return
        self.assertIs(shows(forest, before, after, expected), True)
        for thing in shuffled(shown(forest, before, after), 1)[:8]:
            self.assertIs(shows(thing=thing, after=after, before=before, forest=forest), True)
        with self.assertRaises(NotReached) as caught:
            turns_of(forest, before, after)
        self.assertEqual(caught.exception.reason, expected)

    def test_little_changes(self):
        for k, forest in enumerate(sized_forests()):
            before, found = nearly_outcomes(forest, k)
            for after in found:
                self.assertIs(can_be(forest, before, after), False)
                self.check(forest, before, after)

    def test_whole_rings_in_any_order(self):
        for k, forest in enumerate(sized_forests()):
            before, found = ring_orders(forest, k)
            for after in found:
                self.check(forest, before, after)

    def test_arrangements_by_chance(self):
        for k, forest in enumerate(sized_forests()):
            before = items_for(forest[0])
            for after in (before, before[::-1], shuffled(before, k)):
                self.check(forest, before, after)

    def test_two_items_of_an_outcome_exchanged(self):
        for forest in (path_forest(12), star_forest(12), mixed_forest(12, 3), mixed_forest(12, 4, 0.7)):
            before, after, _ = outcome_rings(forest, 9)
            for p, q in combinations(range(12), 2):
                self.check(forest, before, with_two_exchanged(after, p, q))


class WhichReason(unittest.TestCase):
    def reason_of(self, forest, *rings):
        before = items_for(forest[0])
        return reason(forest, before, arranged(before, [list(ring) for ring in rings]))

    def test_the_least_position(self):
        self.assertEqual(self.reason_of(MANY, [9, 3], [5, 8]), ("moved", 3))
        self.assertEqual(self.reason_of(MANY, [9, 11]), ("moved", 9))
        # The item from 0 stays in its tree, though one from another tree comes to 0.
        self.assertEqual(self.reason_of(MANY, [0, 1, 6, 5]), ("moved", 1))
        self.assertEqual(self.reason_of(MANY, [0, 3, 2, 1], [4, 5, 10]), ("moved", 5))
        for n in range(2, 41):
            self.assertEqual(self.reason_of((n, []), [n - 2, n - 1]), ("moved", n - 2))

    def test_the_least_ring(self):
        self.assertEqual(self.reason_of(path_forest(4), [3, 1], [2, 0]), ("ring", [0, 2]))
        self.assertEqual(self.reason_of(path_forest(4), [3, 2, 1]), ("ring", [0]))
        self.assertEqual(self.reason_of(path_forest(4), [3, 2, 0]), ("ring", [0, 3, 2]))
        whole = [[0, 1, 3, 2], [8, 10, 11]]
        self.assertEqual(self.reason_of(MANY, *whole, [4, 7, 5]), ("ring", [4, 7, 5]))
        self.assertEqual(self.reason_of(MANY, *whole, [7, 6, 5]), ("ring", [4]))
        self.assertEqual(self.reason_of(MANY, [0, 1, 3, 2], [4, 7, 6, 5], [11, 8]), ("ring", [8, 11]))

    def test_the_least_pair(self):
        for ring in ([0, 2, 1, 3], [0, 3, 1, 2]):
            self.assertEqual(self.reason_of(path_forest(4), ring), ("cross", (0, 1), (2, 3)))
        for ring in ([0, 1, 2, 3], [0, 1, 3, 2], [0, 2, 3, 1], [0, 3, 2, 1]):
            self.assertIsNone(self.reason_of(path_forest(4), ring))
        outer = [0, 4, 1, 5, 2, 6, 3, 7]
        self.assertEqual(self.reason_of(path_forest(8), outer), ("cross", (0, 1), (3, 4)))
        rings = [[0, 1, 2, 3], [4, 6, 5, 7], [8, 10, 11]]
        self.assertEqual(self.reason_of(MANY, *rings), ("cross", (4, 5), (6, 7)))
        both = [[0, 2, 1, 3], [4, 6, 5, 7], [8, 10, 11]]
        self.assertEqual(self.reason_of(MANY, *both), ("cross", (0, 1), (2, 3)))

    def test_the_least_pair_among_many(self):
        seen = {}
        for n in (5, 6, 7, 12, 40):
            for seed in range(40):
                forest = mixed_forest(n, seed)
                before, found = ring_orders(forest, seed)
                for after in found[:3]:
                    _, _, crossing = certificates(forest, before, after)
                    expected = crossing[0] if crossing else None
                    self.assertEqual(reason(forest, before, after), expected)
                    seen[len(crossing)] = True
        self.assertGreater(len(seen), 10)

    def test_the_first_form_that_applies(self):
        moved = [9, 11]
        short = [4, 7, 5]
        cross = [0, 2, 1, 3]
        third = [8, 10, 11]
        self.assertEqual(self.reason_of(MANY, moved, short, cross), ("moved", 9))
        self.assertEqual(self.reason_of(MANY, moved, cross), ("moved", 9))
        self.assertEqual(self.reason_of(MANY, moved, short), ("moved", 9))
        self.assertEqual(self.reason_of(MANY, third, short, cross), ("ring", [4, 7, 5]))
        self.assertEqual(self.reason_of(MANY, third, short, [0, 1, 2, 3]), ("ring", [4, 7, 5]))
        self.assertEqual(self.reason_of(MANY, third, [4, 5, 6, 7], cross), ("cross", (0, 1), (2, 3)))
        self.assertEqual(self.reason_of(MANY, third, [4, 5, 6, 7], [0, 1, 2, 3]), None)


class ShowsTrue(unittest.TestCase):
    """Certificates that are true, though reason returns another one."""

    BEFORE = items_for(12)
    ALL_THREE = arranged(BEFORE, [[9, 11], [7, 4, 5], [0, 2, 1, 3]])

    def accepted(self, thing):
        return shows(MANY, self.BEFORE, self.ALL_THREE, thing)

    def test_another_position(self):
        self.assertEqual(reason(MANY, self.BEFORE, self.ALL_THREE), ("moved", 9))
        for p in range(12):
            self.assertIs(self.accepted(("moved", p)), p in (9, 11))

    def test_another_ring_from_any_position(self):
        for ring in ([7, 4, 5], [4, 5, 7], [5, 7, 4], [6], [8], [10]):
            self.assertIs(self.accepted(("ring", ring)), True, ring)

    def test_edges_in_either_order(self):
        self.assertIs(self.accepted(("cross", (0, 1), (2, 3))), True)
        self.assertIs(self.accepted(("cross", (2, 3), (0, 1))), True)

    def test_another_pair(self):
        before, ring = items_for(8), [0, 4, 1, 5, 2, 6, 3, 7]
        forest, after = path_forest(8), arranged(items_for(8), [ring])
        true = shown(forest, before, after)
        self.assertGreater(len(true), 10)
        for e in forest[1]:
            for f in forest[1]:
                expected = ("cross", e, f) in true
                self.assertIs(shows(forest, before, after, ("cross", e, f)), expected)

    def test_all_true_ones_of_all_sizes(self):
        for k, forest in enumerate(sized_forests()[::3]):
            before, found = nearly_outcomes(forest, k)
            for after in found[::3] + ring_orders(forest, k)[1][:2]:
                for thing in shown(forest, before, after)[:60]:
                    self.assertIs(shows(forest, before, after, thing), True, thing)


class ShowsFalse(unittest.TestCase):
    BEFORE = ShowsTrue.BEFORE
    ALL_THREE = ShowsTrue.ALL_THREE

    def refused(self, *things, after=None):
        for thing in things:
            found = shows(MANY, self.BEFORE, after or self.ALL_THREE, thing)
            self.assertIs(found, False, thing)

    def test_positions(self):
        stays = [("moved", p) for p in range(12) if p not in (9, 11)]
        none = [("moved", p) for p in (-1, -3, 12, 13, 40, BIG, -BIG)]
        strange = [("moved", thing) for thing in odd_objects() if thing not in (9, 11)]
        self.refused(*stays, *none, *strange, ("moved", "9"), ("moved", [9]), ("moved", (9,)))

    def test_booleans_are_no_positions(self):
        forest, before, after = (3, [(1, 2)]), ["a", "b", "c"], ["b", "a", "c"]
        self.assertIs(shows(forest, before, after, ("moved", 0)), True)
        self.assertIs(shows(forest, before, after, ("moved", 1)), True)
        self.assertIs(shows(forest, before, after, ("moved", False)), False)
        self.assertIs(shows(forest, before, after, ("moved", True)), False)
        forest, after = path_forest(3), ["b", "a", "c"]
        self.assertIs(shows(forest, before, after, ("ring", [0, 1])), True)
        for ring in ([False, 1], [0, True], [False, True], [True, 0], [1, False], [True, False]):
            self.assertIs(shows(forest, before, after, ("ring", ring)), False)
        self.assertIs(shows(forest, before, before, ("ring", [True])), False)
        crossed = list("dcab")
        self.assertIs(shows(P, ABCD, crossed, ("cross", (0, 1), (2, 3))), True)
        for edge in ((False, 1), (0, True), (False, True)):
            self.assertIs(shows(P, ABCD, crossed, ("cross", edge, (2, 3))), False)
            self.assertIs(shows(P, ABCD, crossed, ("cross", (2, 3), edge)), False)

    def test_rings(self):
        self.refused(("ring", [0, 2, 1, 3]), ("ring", [2, 1, 3, 0]), ("ring", [9, 11]),
                     ("ring", [11, 9]), ("ring", [9]), ("ring", [11]), ("ring", []), ("ring", [4, 7, 5]),
                     ("ring", [7, 4]), ("ring", [7]), ("ring", [4, 5]), ("ring", [7, 4, 5, 7]),
                     ("ring", [7, 4, 5, 7, 4, 5]), ("ring", [6, 6]), ("ring", [4, 5, 6, 7]),
                     ("ring", [8, 10]), ("ring", [12]), ("ring", [-1]), ("ring", [-6]), ("ring", [BIG]),
                     ("ring", [6, 8]), ("ring", [7, 4, 5, 6]), ("ring", [7, 4, None]))

    def test_rings_of_another_kind(self):
        self.refused(("ring", (7, 4, 5)), ("ring", (6,)), ("ring", 6), ("ring", "6"), ("ring", ["6"]),
                     ("ring", [[6]]), ("ring", [(6,)]), ("ring", None), ("ring", [None]), ("ring", ()),
                     ("ring", [[7, 4, 5]]), ("ring", 7, 4, 5), ("ring", [7, 4, 5], None))
        self.refused(*[("ring", thing) for thing in odd_objects() if thing not in ([6], [8], [10])])

    def test_a_ring_that_misses_a_position_of_one_tree_but_is_in_two(self):
        after = arranged(self.BEFORE, [[0, 1, 4]])
        self.refused(("ring", [0, 1, 4]), ("ring", [4, 0, 1]), ("ring", [1, 4, 0]), after=after)

    def test_a_position_without_edges_is_a_whole_ring(self):
        after = arranged(self.BEFORE, [[0, 1, 4]])
        self.refused(("ring", [9]), ("moved", 9), after=after)

    def test_edges_that_do_not_cross(self):
        pairs = [((0, 1), (1, 2)), ((1, 2), (2, 3)), ((0, 1), (0, 1)), ((2, 3), (2, 3)), ((0, 1), (4, 5)),
                 ((0, 1), (6, 7)), ((2, 3), (10, 11)), ((4, 5), (6, 7)), ((8, 10), (10, 11))]
        self.refused(*[("cross", e, f) for e, f in pairs], *[("cross", f, e) for e, f in pairs])
        after = arranged(self.BEFORE, [[0, 1, 2, 3]])
        self.refused(("cross", (0, 1), (2, 3)), ("cross", (2, 3), (0, 1)), after=after)

    def test_pairs_that_are_no_edges(self):
        wrong = [(1, 0), (3, 2), (0, 2), (1, 3), (0, 3), (0, 0), (9, 9), (-1, 0), (11, 12), (0, BIG),
                 (-BIG, BIG), [0, 1], [2, 3], (0,), (0, 1, 2), (), None, 0, "01", ("0", "1"), "0-1",
                 (0, None), ((0, 1), (2, 3)), [(0, 1)], ((0, 1),), (0, [1])]
        for edge in wrong + odd_objects():
            self.refused(("cross", edge, (2, 3)), ("cross", (2, 3), edge), ("cross", (0, 1), edge),
                         ("cross", edge, (0, 1)), ("cross", edge, edge))
        self.refused(("cross", (1, 0), (3, 2)), ("cross", [0, 1], [2, 3]), ("cross", 0, 1))

    def test_a_ring_that_is_not_exactly_the_positions_of_the_tree(self):
        forest, before = path_forest(5), items_for(5)
        things = (("cross", (0, 1), (2, 3)), ("cross", (2, 3), (0, 1)))
        for ring, expected in (([0, 2, 1, 3], False), ([0, 2, 1, 3, 4], True), ([0, 2, 4, 1, 3], True)):
            for thing in things:
                self.assertIs(shows(forest, before, arranged(before, [ring]), thing), expected)
        self.refused(*things, after=arranged(self.BEFORE, [[0, 2, 1, 3, 9]]))
        self.refused(*things, after=arranged(self.BEFORE, [[0, 2, 1, 3, 4, 6, 5, 7]]))
        self.refused(*things, after=arranged(self.BEFORE, [[0, 2], [1, 3]]))

    def test_words(self):
        for word in ("move", "Moved", "MOVED", " moved", "moved ", "ring", "cross", "", "loop", None, 0,
                     True, ("moved",), ["moved"]):
            self.refused((word, 9), (word, 11))
        for word in ("rings", "Ring", "rin", "moved", "cross", "", None, 1, ["ring"]):
            self.refused((word, [7, 4, 5]), (word, [6]))
        for word in ("crosses", "Cross", "cros", "moved", "ring", "", None, 2, ("cross",)):
            self.refused((word, (0, 1), (2, 3)), (word, (2, 3), (0, 1)))

    def test_entries_more_or_less(self):
        self.refused(("moved",), ("moved", 9, 9), ("moved", 9, 11), ("moved", 9, None), (9,), (9, "moved"),
                     ("moved", (9, 11)), ("ring",), ("ring", [6], [8]), ("ring", [6], 6), ([6], "ring"),
                     ("cross",), ("cross", (0, 1)), ("cross", (0, 1), (2, 3), None), ((0, 1), (2, 3)),
                     ("cross", (0, 1), (2, 3), (0, 1)), ("cross", ((0, 1), (2, 3))), ("cross", 0, 1, 2, 3),
                     ((0, 1), "cross", (2, 3)), ("cross", [(0, 1), (2, 3)]), ("moved", 9, 9, 9),
                     ("moved", 9, None, None), ("ring", [6], [6], [6]), ("ring", [6], None, None))

    def test_a_list_in_place_of_the_tuple(self):
        self.refused(["moved", 9], ["ring", [6]], ["cross", (0, 1), (2, 3)], [("moved", 9)],
                     (("moved", 9),), "moved", "moved 9", str(("moved", 9)))

    def test_other_objects(self):
        self.refused(*odd_objects())
        for kind in (list, tuple):
            for depth in range(1, 26):
                deep = nested(kind, depth)
                self.refused(deep, ("moved", deep), ("ring", deep), ("ring", [deep]), (deep, 9),
                             ("cross", deep, (0, 1)), ("cross", (0, 1), deep), ("cross", deep, deep))
        self.refused(("ring", [6] * 398), ("ring", [7, 4, 5] * 132), ("moved",) * 400, ("moved", 9) * 200,
                     ("ring", list(range(398))), ("cross", ((0, 1),) * 100, (2, 3)), (("moved", 9),) * 130,
                     ("cross",) + ((0, 1), (2, 3)) * 60, ("ring", [None] * 398), ["moved", 9] * 200)

    def test_random_lists_are_no_rings_unless_they_are(self):
        forest, before = path_forest(5), items_for(5)
        after = arranged(before, [[0, 3, 1], [2, 4]])
        true = shown(forest, before, after)
        for size in range(1, 6):
            for ring in permutations(range(5), size):
                thing = ("ring", list(ring))
                self.assertIs(shows(forest, before, after, thing), thing in true, thing)


if __name__ == "__main__":
    unittest.main()
