import random
import unittest
from fractions import Fraction
from math import factorial

from onceswapped import errors
from onceswapped.errors import (
    NoArrangement, NoEdge, NoForest, NoItem, NoNumber, NoPosition, Nothing, NotReached, SwapError, TooMany)
from onceswapped.live import Tracker
from onceswapped.outcomes import outcome_count
from tests.oracle import after_by
from tests.plain_tracker import PlainTracker
from tests.samples import (
    BIG, bad_arrangements, error_of, items_for, lists_inside, mixed_forest, odd_objects, path_forest,
    shuffled, star_forest)

A_EDGES = [(0, 1), (1, 2), (1, 3)]
CHANGES = ("bundle", "swap", "see", "see_all", "undo", "mark", "undo_to")
# Objects that are no ascending list of edges of five positions without a cycle.
NO_EDGES = [
    [(1, 0)], [(0, 0)], [(0, 1), (0, 1)], [(1, 2), (0, 1)], [(0, 1), (0, 2), (1, 2)], [(0, 5)], [(-1, 0)],
    [(0, 1), (4, 5)], [(0, BIG)], [[0, 1]], [(0, 1, 2)], [(0,)], [()], [None], [(0, True)], [(False, 1)],
    [(0, "1")], [("a", "b")], ((0, 1),), ((0, 1), (1, 2)), (0, 1), "0-1", "", None, 0, True, {}, [(0, None)],
    [(0, 1), None], [(0, 1), [1, 2]], [[(0, 1)]], [((0, 1), (1, 2))], [(0, 1), (1, 2), (2, 3), (0, 3)],
    (5, [(0, 1)]), [0, 1], [(p, p + 1) for p in range(5)]]


def called(tracker, name, *arguments):
    """What a call returns, or its error as a name and a field."""
    try:
        return getattr(tracker, name)(*arguments)
    except SwapError as error:
        assert type(error).__module__ == "onceswapped.errors"
        fields = [error.many if type(error) is errors.TooMany else None]
        if type(error) is NotReached:
            fields = [error.reason]
        return (type(error).__name__, fields[0])


def told(tracker, n, items):
    """All that a tracker's queries tell, those of every position and every item included."""
    found = [tracker.possible(), tracker.known(), tracker.history()]
    found += [tracker.may_hold(p) for p in range(n)]
    return found + [tracker.where(item) for item in items]


class Examples(unittest.TestCase):
    def tracker(self):
        tracker = Tracker(list("abcde"))
        self.assertIsNone(tracker.bundle(A_EDGES))
        return tracker

    def test_possible_and_shares(self):
        tracker = self.tracker()
        self.assertEqual(tracker.possible(), 6)
        self.assertIsNone(tracker.see(2, "a"))
        self.assertEqual(tracker.possible(), 2)
        self.assertEqual(tracker.may_hold(3), [("b", (1, 2)), ("c", (1, 2))])
        self.assertEqual(tracker.where("a"), [(2, (1, 1))])
        self.assertEqual(tracker.known(), [None, None, "a", None, "e"])

    def test_nothing_left(self):
        with self.assertRaises(NotReached) as caught:
            self.tracker().see(4, "a")
        self.assertIs(type(caught.exception), NotReached)
        self.assertIsNone(caught.exception.reason)

    def test_marks(self):
        tracker = self.tracker()
        mark = tracker.mark()
        self.assertIsNone(tracker.see_all(list("bdace")))
        self.assertIsNone(tracker.undo_to(mark))
        found = [mark, tracker.possible(), len(tracker), tracker.history()]
        self.assertEqual(found, [0, 6, 1, [("bundle", A_EDGES)]])

    def test_twin(self):
        tracker = Tracker(list("abc"))
        self.assertIsNone(tracker.swap(2, 0))
        twin = tracker.twin()
        self.assertIsNone(tracker.undo())
        found = [tracker.known(), twin.known(), twin.history()]
        self.assertEqual(found, [["a", "b", "c"], ["c", "b", "a"], [("swap", 2, 0)]])

    def test_nothing_to_undo(self):
        self.assertIs(error_of(Tracker(["a"]).undo), Nothing)

    def test_by_name(self):
        tracker = Tracker(items=list("abcde"))
        tracker.bundle(edges=A_EDGES)
        tracker.swap(q=0, p=4)
        tracker.see(item="e", position=0)
        tracker.undo_to(mark=tracker.mark())
        tracker.see_all(items=list("edacb"))
        self.assertEqual(tracker.may_hold(position=0), [("e", (1, 1))])
        self.assertEqual(tracker.where(item="b"), [(4, (1, 1))])


class Chance:
    """Calls by chance, valid ones and invalid ones, for a tracker of n items."""

    def __init__(self, n, seed):
        self.chance = random.Random(seed)
        self.n = n
        self.items = items_for(n)

    def edges(self):
        keep = self.chance.choice((0.2, 0.5, 0.9))
        return mixed_forest(self.n, self.chance.randrange(10 ** 6), keep)[1]

    def position(self):
        return self.chance.choice([-1, self.n, BIG] + list(range(self.n)) * 9)

    def item(self):
        return self.chance.choice(["", "no", "A"] + self.items * 9)

    def arguments(self, name, plain):
        chance = self.chance
        if name == "bundle":
            return [chance.choice(NO_EDGES) if chance.random() < 0.1 and self.n == 5 else self.edges()]
        if name == "swap":
            return [self.position(), self.position()]
        if name == "see":
            possible = chance.choice(sorted(plain.ways()))
            position = self.position()
            if position in range(self.n) and chance.random() < 0.7:
                return [position, possible[position]]
            return [position, self.item()]
        if name == "see_all":
            possible = list(chance.choice(sorted(plain.ways())))
            return [chance.choice([possible] * 4 + [self.items, self.items[::-1], possible[1:], tuple(possible)])]
        if name == "undo_to":
            return [chance.choice([-1, len(plain.marks), BIG] + list(range(len(plain.marks))) * 9)]
        return []

    def name(self):
        return self.chance.choice(["bundle"] * 5 + ["swap"] * 3 + ["see"] * 4 + ["undo"] * 3 + ["mark", "mark"]
                                  + ["undo_to", "see_all"])


class AgainstAPlainList(unittest.TestCase):
    def compare(self, tracker, plain, n, some=None):
        self.assertEqual(tracker.possible(), plain.possible())
        self.assertEqual(tracker.known(), plain.known())
        self.assertEqual(tracker.history(), plain.history())
        self.assertEqual(len(tracker), len(plain.history()))
        for position in range(n) if some is None else [some % n]:
            self.assertEqual(tracker.may_hold(position), plain.may_hold(position))
        for item in plain.items if some is None else [plain.items[some // 3 % n]]:
            self.assertEqual(tracker.where(item), plain.where(item))

    def run_by_chance(self, n, seed, many):
        chance = Chance(n, seed)
        tracker, plain = Tracker(list(chance.items)), PlainTracker(chance.items)
        outcomes = set()
        for k in range(many):
            name = chance.name()
            arguments = chance.arguments(name, plain)
            expected = getattr(plain, name)(*arguments)
            self.assertEqual(called(tracker, name, *arguments), expected, (name, arguments))
            outcomes.add((name, expected[0] if isinstance(expected, tuple) else "done"))
            self.compare(tracker, plain, n, None if k % 5 == 0 else k)
        return outcomes

    def test_up_to_seven_items(self):
        seen = set()
        for n in range(1, 8):
            for seed in range(40):
                seen |= self.run_by_chance(n, seed + 50 * n, 40)
        expected = [(name, "done") for name in CHANGES] + [
            ("bundle", "NoForest"), ("bundle", "TooMany"), ("swap", "NoEdge"), ("see", "NoPosition"),
            ("see", "NoItem"), ("see", "NotReached"), ("see_all", "NoArrangement"), ("see_all", "NotReached"),
            ("undo", "Nothing"), ("undo_to", "NoNumber")]
        self.assertEqual([pair for pair in expected if pair not in seen], [])

    def test_three_hundred_calls(self):
        for n, seed in ((4, 1), (5, 2), (6, 3)):
            self.run_by_chance(n, seed, 300)

    def test_bundles_in_a_row(self):
        for seed in range(30):
            n = seed % 5 + 3
            tracker, plain = Tracker(items_for(n)), PlainTracker(items_for(n))
            for k in range(4):
                edges = mixed_forest(n, seed + 10 * k, 0.7)[1]
                self.assertEqual(called(tracker, "bundle", edges), plain.bundle(edges))
                self.compare(tracker, plain, n)

    def test_possible_counts_arrangements_and_fractions_count_ways(self):
        # After two bundles of two outcomes each, one of three arrangements has two of the four ways.
        tracker = Tracker(list("abc"))
        for _ in range(2):
            tracker.bundle([(0, 1), (1, 2)])
        self.assertEqual(tracker.possible(), 3)
        self.assertEqual(tracker.may_hold(0), [("a", (1, 2)), ("b", (1, 4)), ("c", (1, 4))])
        self.assertEqual(tracker.where("b"), [(0, (1, 4)), (1, (1, 2)), (2, (1, 4))])
        tracker.bundle([(0, 1), (1, 2)])
        self.assertEqual(tracker.possible(), 3)
        self.assertEqual(tracker.where("b"), [(0, (3, 8)), (1, (1, 4)), (2, (3, 8))])
        tracker.see(1, "a")
        self.assertEqual(tracker.possible(), 1)
        self.assertEqual(tracker.where("b"), [(2, (1, 1))])

    def test_the_order_of_observations(self):
        for seed in range(20):
            n = seed % 4 + 4
            forest = mixed_forest(n, seed)
            after = after_by(items_for(n), shuffled(forest[1], seed))
            found = []
            for order in (shuffled(range(n), 1), shuffled(range(n), 2), list(range(n))):
                tracker = Tracker(items_for(n))
                tracker.bundle(forest[1])
                for position in order:
                    tracker.see(position, after[position])
                self.assertEqual(tracker.known(), after)
                found.append(order)
            chosen = shuffled(range(n), seed)[:2]
            states = []
            for order in (chosen, chosen[::-1]):
                tracker = Tracker(items_for(n))
                tracker.bundle(forest[1])
                for position in order:
                    tracker.see(position, after[position])
                states.append([tracker.possible(), tracker.known()] + [tracker.may_hold(p) for p in range(n)])
            self.assertEqual(states[0], states[1])

    def test_two_trees_are_two_bundles(self):
        for seed in range(12):
            left, right = mixed_forest(4, seed)[1], mixed_forest(3, seed)[1]
            right = [(p + 4, q + 4) for p, q in right]
            found = []
            for bundles in ([left + right], [left, right], [right, left]):
                tracker = Tracker(items_for(7))
                tracker.swap(0, 6)
                for edges in bundles:
                    tracker.bundle(edges)
                found.append(told(tracker, 7, items_for(7))[:2] + told(tracker, 7, items_for(7))[3:])
            self.assertEqual(found[0], found[1])
            self.assertEqual(found[0], found[2])

    def test_a_swap_is_a_bundle_of_one_edge(self):
        for p, q in ((0, 1), (1, 0), (3, 1), (2, 4), (4, 0)):
            found = []
            for name, arguments in (("swap", [p, q]), ("swap", [q, p]), ("bundle", [[tuple(sorted((p, q)))]])):
                tracker = Tracker(list("abcde"))
                tracker.bundle(A_EDGES)
                self.assertIsNone(called(tracker, name, *arguments))
                found.append([tracker.known()] + [tracker.may_hold(place) for place in range(5)])
                self.assertEqual(tracker.history()[1:], [tuple([name] + arguments)])
            self.assertEqual(found[0], found[1])
            self.assertEqual(found[0], found[2])


class LargeBundles(unittest.TestCase):
    def star(self, n=40, middle=0):
        tracker = Tracker(items_for(n))
        tracker.bundle(star_forest(n, middle)[1])
        return tracker

    def test_a_star_of_forty(self):
        items = items_for(40)
        for middle in (0, 13, 39):
            tracker = self.star(40, middle)
            self.assertEqual(tracker.possible(), factorial(39))
            self.assertEqual(tracker.known(), [None] * 40)
            for position in (0, 13, 20, 39):
                others = sorted(item for p, item in enumerate(items) if p != position)
                self.assertEqual(tracker.may_hold(position), [(item, (1, 39)) for item in others])
                places = [p for p in range(40) if p != position]
                self.assertEqual(tracker.where(items[position]), [(p, (1, 39)) for p in places])

    def test_observations_of_a_star(self):
        forest, items = star_forest(40, 7), items_for(40)
        after = after_by(items, shuffled(forest[1], 5))
        tracker = self.star(40, 7)
        for k, position in enumerate(shuffled(range(40), 6)):
            tracker.see(position, after[position])
            self.assertEqual(tracker.possible(), factorial(max(38 - k, 0)))
            known = tracker.known()
            self.assertEqual(known[position], after[position])
            for other in (position, k, 39 - k):
                fractions = tracker.may_hold(other)
                self.assertEqual(sum(Fraction(*fraction) for _, fraction in fractions), 1)
                self.assertIn(after[other], [item for item, _ in fractions])
                self.assertEqual(known[other] is not None, len(fractions) == 1)
                places = tracker.where(items[other])
                self.assertEqual(sum(Fraction(*fraction) for _, fraction in places), 1)
        self.assertEqual(tracker.known(), after)
        # One arrangement is possible again, so that the next bundle may be large, too.
        tracker.bundle(star_forest(40, 39)[1])
        self.assertEqual(tracker.possible(), factorial(39))
        self.assertEqual(len(tracker), 42)

    def test_see_all_in_a_star(self):
        forest, items = star_forest(40), items_for(40)
        after = after_by(items, shuffled(forest[1], 5))
        tracker = self.star()
        self.assertEqual(called(tracker, "see_all", items), ("NotReached", None))
        tracker.see(3, after[3])
        wrong = after_by(items, shuffled(forest[1], 6))
        self.assertNotEqual(wrong[3], after[3])
        self.assertEqual(called(tracker, "see_all", wrong), ("NotReached", None))
        self.assertEqual(tracker.possible(), factorial(38))
        tracker.see_all(after)
        self.assertEqual([tracker.possible(), tracker.known()], [1, after])

    def test_several_trees(self):
        edges = sorted([(0, p) for p in range(1, 14)] + [(p, 25) for p in range(14, 25)]
                       + [(p, p + 1) for p in range(26, 38)])
        forest, items = (40, edges), items_for(40)
        after = after_by(items, shuffled(edges, 3))
        tracker = Tracker(items_for(40))
        tracker.bundle(edges)
        self.assertEqual(tracker.possible(), outcome_count(forest))
        self.assertEqual(tracker.known(), [None] * 39 + [items[39]])
        many = tracker.possible()
        for position in (0, 14, 26, 30, 38):
            fractions = dict(tracker.may_hold(position))
            counts = []
            for item in items:
                twin = tracker.twin()
                if item in fractions:
                    twin.see(position, item)
                    counts.append(twin.possible())
                    self.assertEqual(Fraction(counts[-1], many), Fraction(*fractions[item]))
                else:
                    self.assertEqual(called(twin, "see", position, item), ("NotReached", None))
            self.assertEqual(sum(counts), many)
        for position in shuffled(range(40), 2):
            tracker.see(position, after[position])
        self.assertEqual([tracker.possible(), tracker.known()], [1, after])

    def test_all_sizes(self):
        for n in range(2, 41):
            tracker = self.star(n, n // 2)
            self.assertEqual(tracker.possible(), factorial(n - 1))
            tracker.undo()
            tracker.bundle(path_forest(n)[1])
            self.assertEqual(tracker.possible(), 2 ** (n - 2))

    def test_listed_at_last(self):
        # Seven items of a star are left unseen, then further bundles need all arrangements one by one.
        forest, items = star_forest(40), items_for(40)
        after = after_by(items, shuffled(forest[1], 9))
        tracker = self.star()
        for position in range(7, 40):
            tracker.see(position, after[position])
        self.assertEqual(tracker.possible(), factorial(6))
        tracker.bundle([(7, 8), (8, 9), (9, 10)])
        self.assertEqual(tracker.possible(), factorial(6) * 4)
        found = [tracker.may_hold(position) for position in range(40)]
        self.assertTrue(all(sum(Fraction(*part) for _, part in row) == 1 for row in found))
        self.assertEqual(dict(found[10]), {after[7]: (1, 4), after[8]: (1, 4), after[9]: (1, 2)})
        tracker.undo()
        tracker.swap(0, 39)
        self.assertEqual(tracker.known()[0], after[39])
        self.assertEqual(tracker.possible(), factorial(6))


class Limits(unittest.TestCase):
    def many_of(self, tracker, name, *arguments):
        before = [tracker.possible(), tracker.known(), tracker.history()]
        with self.assertRaises(TooMany) as caught:
            getattr(tracker, name)(*arguments)
        self.assertIs(type(caught.exception), TooMany)
        self.assertEqual([tracker.possible(), tracker.known(), tracker.history()], before)
        return caught.exception.many

    def test_exactly_five_thousand(self):
        # Four separate fives of positions with five possible arrangements each, and eight outcomes more.
        tracker = Tracker(items_for(40))
        for first in (0, 5, 10, 15):
            self.make_five(tracker, first)
        self.assertEqual(tracker.possible(), 625)
        eight = [(20, 21), (21, 22), (23, 24), (24, 25), (26, 27), (27, 28)]
        sixteen = eight + [(29, 30), (30, 31)]
        self.assertEqual(self.many_of(tracker, "bundle", sixteen), 10000)
        tracker.bundle(eight)
        self.assertEqual(tracker.possible(), 5000)
        tracker.swap(0, 39)
        self.assertEqual(tracker.possible(), 5000)
        tracker.bundle([])
        self.assertEqual(self.many_of(tracker, "bundle", [(32, 33), (33, 34)]), 10000)
        tracker.see(20, tracker.may_hold(20)[0][0])
        self.assertEqual(tracker.possible(), 2500)
        tracker.bundle([(32, 33), (33, 34)])
        self.assertEqual(tracker.possible(), 5000)

    def make_five(self, tracker, first):
        """Bring five positions from one arrangement to five, by two bundles and an observation."""
        a, b, c, d, e = range(first, first + 5)
        tracker.bundle([(a, b), (a, c), (a, e), (d, e)])
        tracker.bundle([(a, e), (b, e), (c, d)])
        tracker.see(a, items_for(40)[c])

    def test_a_little_more(self):
        tracker = Tracker(items_for(12))
        tracker.bundle([(0, p) for p in range(1, 7)])
        self.assertEqual(tracker.possible(), 720)
        self.assertEqual(self.many_of(tracker, "bundle", [(7, 8), (7, 9), (7, 10), (8, 11)]), 720 * 12)
        self.assertEqual(self.many_of(tracker, "bundle", [(7, 8), (8, 9), (9, 10), (10, 11)]), 720 * 8)
        tracker.bundle([(7, 8), (7, 9), (7, 10)])
        self.assertEqual(tracker.possible(), 4320)
        tracker.swap(0, 1)
        tracker.bundle([])
        tracker.bundle([(0, 1), (2, 3), (4, 5), (6, 7)])
        self.assertEqual(tracker.possible(), 4320)
        self.assertEqual(self.many_of(tracker, "bundle", [(0, 1), (1, 2)]), 8640)

    def test_also_for_one_edge_and_for_none(self):
        tracker = Tracker(items_for(40))
        tracker.bundle([(0, p) for p in range(1, 8)])
        self.assertEqual(tracker.possible(), 5040)
        self.assertEqual(self.many_of(tracker, "swap", 8, 9), 5040)
        self.assertEqual(self.many_of(tracker, "swap", 9, 8), 5040)
        self.assertEqual(self.many_of(tracker, "bundle", []), 5040)
        self.assertEqual(self.many_of(tracker, "bundle", [(10, 11)]), 5040)
        tracker.see(0, tracker.may_hold(0)[0][0])
        self.assertEqual(tracker.possible(), 720)
        tracker.swap(8, 9)
        tracker.bundle([])
        self.assertEqual(tracker.possible(), 720)

    def test_a_star_of_forty(self):
        items = items_for(40)
        tracker = Tracker(items)
        edges = star_forest(40)[1]
        tracker.bundle(edges)
        self.assertEqual(self.many_of(tracker, "bundle", []), factorial(39))
        self.assertEqual(self.many_of(tracker, "swap", 0, 1), factorial(39))
        self.assertEqual(self.many_of(tracker, "bundle", edges), factorial(39) ** 2)
        after = after_by(items, shuffled(edges, 2))
        seen = 0
        while tracker.possible() > 5000:
            self.assertEqual(self.many_of(tracker, "swap", 39, 2), tracker.possible())
            tracker.see(seen, after[seen])
            seen += 1
        self.assertEqual(tracker.possible(), 720)
        tracker.swap(39, 2)
        self.assertEqual(tracker.possible(), 720)

    def test_no_limit_for_one_arrangement(self):
        tracker = Tracker(items_for(40))
        tracker.swap(1, 2)
        for k in range(3):
            tracker.bundle(star_forest(40, k)[1])
            self.assertEqual(tracker.possible(), factorial(39))
            tracker.see_all(after_by(self.before(tracker), shuffled(star_forest(40, k)[1], k)))
            self.assertEqual(tracker.possible(), 1)

    def before(self, tracker):
        """The only arrangement before the last call."""
        twin = tracker.twin()
        twin.undo()
        self.assertEqual(twin.possible(), 1)
        return twin.known()

    def test_too_many_comes_last(self):
        tracker = Tracker(items_for(9))
        tracker.bundle(star_forest(9)[1])
        self.assertEqual(tracker.possible(), 40320)
        self.assertIs(error_of(tracker.bundle, [(1, 0)]), NoForest)
        self.assertIs(error_of(tracker.bundle, None), NoForest)
        self.assertIs(error_of(tracker.swap, 3, 3), NoEdge)
        self.assertIs(error_of(tracker.swap, 3, 9), NoEdge)
        self.assertIs(error_of(tracker.swap, 3, 8), TooMany)


class Errors(unittest.TestCase):
    def unchanged(self, tracker, expected, name, *arguments):
        items = sorted(tracker.twin().known())
        before = told(tracker, 5, items) + [len(tracker)]
        self.assertIs(error_of(getattr(tracker, name), *arguments), expected, (name, arguments))
        self.assertEqual(told(tracker, 5, items) + [len(tracker)], before)

    def trackers(self):
        """Trackers of a to e, all items known: new, after a swap, and of listed arrangements."""
        found = [Tracker(list("abcde")) for _ in range(3)]
        found[1].swap(0, 3)
        found[2].bundle(A_EDGES)
        found[2].bundle(A_EDGES)
        found[2].see_all(list("abcde"))
        return found

    def test_no_arrangement(self):
        for thing in [[], items_for(40) + ["more"], ["a"] * 2, ("a",), ["A"], [""], [None]] + odd_objects():
            if not (isinstance(thing, list) and len(thing) == 1 and thing[0] in ("a", "b")):
                self.assertIs(error_of(Tracker, thing), NoArrangement, thing)
        for thing in bad_arrangements(list("abcde")):
            if thing != list("abcd") and thing != list("abcde") + ["zz"]:
                self.assertIs(error_of(Tracker, items=thing), NoArrangement, thing)
        for n in range(1, 41):
            self.assertEqual(Tracker(items_for(n)).known(), items_for(n))
        words = [letter * k for letter in "abcdefghijk" for k in (1, 2, 3, 4)]
        self.assertIs(error_of(Tracker, words[:41]), NoArrangement)
        self.assertIsNone(error_of(Tracker, words[:40]))

    def test_no_forest(self):
        for tracker in self.trackers():
            for edges in NO_EDGES + [thing for thing in odd_objects() if thing != []]:
                self.unchanged(tracker, NoForest, "bundle", edges)

    def test_no_edge(self):
        wrong = [(0, 0), (4, 4), (0, 5), (5, 0), (-1, 0), (0, -1), (-1, -1), (5, 5), (5, 6), (BIG, 0), (0, BIG),
                 (-BIG, BIG), (BIG, BIG), (-1, 1), (4, 40)]
        for tracker in self.trackers():
            for p, q in wrong:
                self.unchanged(tracker, NoEdge, "swap", p, q)

    def test_see(self):
        for tracker in self.trackers():
            for position in (-1, -5, 5, 6, 40, BIG, -BIG):
                self.unchanged(tracker, NoPosition, "see", position, "a")
                self.unchanged(tracker, NoPosition, "see", position, "no")
                self.unchanged(tracker, NoPosition, "may_hold", position)
            for item in ("", "f", "A", "aa", "a ", " a", "?", "abcde", "x" * 4000, "\n"):
                self.unchanged(tracker, NoItem, "see", 0, item)
                self.unchanged(tracker, NoItem, "where", item)
            known = tracker.known()
            self.unchanged(tracker, NotReached, "see", 0, known[1])

    def test_see_all(self):
        for tracker in self.trackers():
            for thing in bad_arrangements(list("abcde")) + [list("abcdf"), list("abcd"), list("abcdef"), ["e"]]:
                self.unchanged(tracker, NoArrangement, "see_all", thing)
            self.unchanged(tracker, NotReached, "see_all", tracker.known()[::-1])

    def test_not_reached_exactly_if_nothing_is_left(self):
        for listed in (False, True):
            tracker, plain = Tracker(list("abcd")), PlainTracker(list("abcd"))
            for one in (tracker, plain):
                one.bundle([(0, 1), (1, 2), (2, 3)])
                if listed:
                    one.bundle([(0, 2), (2, 3)])
            for position in range(4):
                for item in "abcd":
                    left = [items for items in plain.ways() if items[position] == item]
                    expected = None if left else ("NotReached", None)
                    self.assertEqual(called(tracker.twin(), "see", position, item), expected)
            for after in sorted(plain.ways()):
                self.assertIsNone(tracker.twin().see_all(list(after)))
            for seed in range(20):
                after = shuffled("abcd", seed)
                expected = None if tuple(after) in plain.ways() else ("NotReached", None)
                self.assertEqual(called(tracker.twin(), "see_all", after), expected)

    def test_no_number(self):
        for tracker in self.trackers():
            for mark in (0, 1, -1, BIG, -BIG):
                self.unchanged(tracker, NoNumber, "undo_to", mark)
            self.assertEqual(tracker.mark(), 0)
            for mark in (1, 2, -1, BIG, -BIG):
                self.unchanged(tracker, NoNumber, "undo_to", mark)
            self.assertIsNone(tracker.undo_to(0))


class GoingBack(unittest.TestCase):
    CALLS = [("bundle", A_EDGES), ("swap", 4, 0), ("see", 4, "b"), ("bundle", [(0, 4)]), ("see", 0, "b"),
             ("see_all", ["b", "d", "a", "c", "e"]), ("bundle", [(0, 1), (1, 2), (2, 3), (3, 4)]), ("swap", 1, 3)]

    def told(self, tracker):
        return told(tracker, 5, list("abcde")) + [len(tracker)]

    def test_undo_after_each_kind_of_call(self):
        tracker = Tracker(list("abcde"))
        states = [self.told(tracker)]
        for name, *arguments in self.CALLS:
            self.assertIsNone(called(tracker, name, *arguments))
            states.append(self.told(tracker))
        self.assertEqual(tracker.history(), self.CALLS)
        for state in states[::-1][1:]:
            self.assertIsNone(tracker.undo())
            self.assertEqual(self.told(tracker), state)
        self.assertIs(error_of(tracker.undo), Nothing)

    def test_undo_on_a_new_tracker(self):
        for n in (1, 2, 40):
            tracker = Tracker(items_for(n))
            tracker.mark()
            self.assertIs(error_of(tracker.undo), Nothing)
            self.assertEqual(tracker.known(), items_for(n))
            self.assertIsNone(tracker.undo_to(0))
            self.assertIs(error_of(tracker.undo), Nothing)

    def test_the_numbers_of_marks(self):
        tracker = Tracker(list("abcde"))
        self.assertEqual([tracker.mark(), tracker.mark()], [0, 1])
        tracker.swap(0, 1)
        self.assertEqual([tracker.mark(), tracker.mark()], [2, 3])
        tracker.undo_to(2)
        self.assertEqual(tracker.mark(), 3)
        tracker.undo_to(0)
        self.assertEqual([tracker.mark(), tracker.mark()], [1, 2])

    def test_undo_removes_the_marks_made_after_the_call(self):
        tracker = Tracker(list("abcde"))
        tracker.mark()
        tracker.swap(0, 1)
        tracker.mark()
        tracker.mark()
        tracker.swap(1, 2)
        tracker.mark()
        tracker.undo()
        self.assertIs(error_of(tracker.undo_to, 3), NoNumber)
        self.assertIsNone(tracker.undo_to(2))
        tracker.undo()
        for mark in (1, 2, 3):
            self.assertIs(error_of(tracker.undo_to, mark), NoNumber)
        self.assertEqual(tracker.mark(), 1)
        self.assertEqual(tracker.history(), [])

    def test_undo_to_the_same_mark_twice(self):
        tracker = Tracker(list("abcde"))
        tracker.bundle(A_EDGES)
        mark = tracker.mark()
        state = self.told(tracker)
        for calls in (self.CALLS[1:3], self.CALLS[1:2], []):
            for name, *arguments in calls:
                self.assertIsNone(called(tracker, name, *arguments))
                tracker.mark()
            self.assertIsNone(tracker.undo_to(mark))
            self.assertEqual(self.told(tracker), state)
            self.assertIs(error_of(tracker.undo_to, mark + 1), NoNumber)

    def test_undo_to_is_no_call_that_undo_undoes(self):
        tracker = Tracker(list("abcde"))
        tracker.swap(0, 1)
        state = self.told(tracker)
        tracker.swap(1, 2)
        mark = tracker.mark()
        tracker.swap(2, 3)
        tracker.undo_to(mark)
        self.assertEqual(tracker.history(), [("swap", 0, 1), ("swap", 1, 2)])
        tracker.undo()
        self.assertEqual(self.told(tracker), state)
        self.assertIs(error_of(tracker.undo_to, mark), NoNumber)

    def test_a_later_mark_at_the_same_place(self):
        tracker = Tracker(list("abcde"))
        first, second, third = tracker.mark(), tracker.mark(), tracker.mark()
        tracker.swap(0, 1)
        tracker.undo_to(second)
        self.assertIs(error_of(tracker.undo_to, third), NoNumber)
        self.assertIsNone(tracker.undo_to(first))
        self.assertIs(error_of(tracker.undo_to, second), NoNumber)

    def test_new_calls_after_going_back(self):
        tracker, plain = Tracker(list("abcde")), PlainTracker(list("abcde"))
        for name, *arguments in self.CALLS[:3] + [("undo",), ("mark",), ("swap", 0, 2), ("undo_to", 0),
                                                  ("see", 3, "c"), ("undo",), ("undo",), ("bundle", A_EDGES)]:
            self.assertEqual(called(tracker, name, *arguments), getattr(plain, name)(*arguments))
            self.assertEqual(self.told(tracker)[:-1], told(plain, 5, list("abcde")))

    def test_three_hundred_calls(self):
        tracker = Tracker(items_for(40))
        known = []
        for k in range(300):
            known.append(tracker.known())
            tracker.swap(k % 40, (7 * k + 1) % 40 if (7 * k + 1) % 40 != k % 40 else (k + 1) % 40)
            self.assertEqual(tracker.mark(), k)
        self.assertEqual(len(tracker), 300)
        tracker.undo_to(149)
        self.assertEqual([tracker.known(), len(tracker)], [known[150], 150])
        for k in range(149, -1, -1):
            tracker.undo()
            self.assertEqual(tracker.known(), known[k])
        self.assertIs(error_of(tracker.undo_to, 0), NoNumber)
        self.assertIs(error_of(tracker.undo), Nothing)


class Twins(unittest.TestCase):
    def made(self):
        tracker = Tracker(list("abcde"))
        tracker.mark()
        tracker.bundle(A_EDGES)
        tracker.mark()
        tracker.see(2, "a")
        return tracker

    def told(self, tracker):
        return told(tracker, 5, list("abcde")) + [len(tracker)]

    def test_a_twin_has_the_same_state_and_marks(self):
        tracker = self.made()
        twin = tracker.twin()
        self.assertIs(type(twin), Tracker)
        self.assertEqual(self.told(twin), self.told(tracker))
        self.assertEqual(twin.mark(), 2)
        self.assertEqual(tracker.mark(), 2)
        twin.undo_to(1)
        self.assertEqual(twin.history(), [("bundle", A_EDGES)])
        twin.undo_to(0)
        self.assertEqual([twin.known(), len(twin)], [list("abcde"), 0])

    def test_nothing_that_happens_to_one_happens_to_the_other(self):
        changes = [lambda t: t.undo(), lambda t: t.undo_to(0), lambda t: t.undo_to(1), lambda t: t.swap(0, 4),
                   lambda t: t.bundle([(3, 4)]), lambda t: t.see(3, "b"), lambda t: t.see_all(list("cdabe")),
                   lambda t: t.mark(), lambda t: t.see(4, "a"), lambda t: t.history().clear(),
                   lambda t: t.twin().undo()]
        for change in changes:
            for turn in (0, 1):
                tracker = self.made()
                pair = [tracker, tracker.twin()]
                kept = self.told(pair[turn])
                try:
                    change(pair[1 - turn])
                except NotReached:
                    pass
                self.assertEqual(self.told(pair[turn]), kept)
                self.assertEqual(pair[turn].mark(), 2)
                self.assertIsNone(pair[turn].undo_to(1))
                self.assertIsNone(pair[turn].undo_to(0))

    def test_a_twin_of_a_large_bundle(self):
        tracker = Tracker(items_for(40))
        tracker.bundle(star_forest(40)[1])
        twin = tracker.twin()
        twin.see(0, items_for(40)[5])
        self.assertEqual([tracker.possible(), twin.possible()], [factorial(39), factorial(38)])
        tracker.undo()
        self.assertEqual([tracker.possible(), twin.possible()], [1, factorial(38)])
        twin.undo()
        self.assertEqual(twin.possible(), factorial(39))

    def test_twins_of_twins(self):
        tracker = self.made()
        line = [tracker]
        for k in range(5):
            line.append(line[-1].twin())
            line[-1].swap(k, 4 if k < 4 else 0)
        self.assertEqual([len(one) for one in line], [2, 3, 4, 5, 6, 7])

    def test_identity(self):
        tracker = self.made()
        twin = tracker.twin()
        self.assertTrue(tracker == tracker)
        self.assertFalse(tracker == twin)
        self.assertTrue(tracker != twin)
        self.assertFalse(Tracker(["a"]) == Tracker(["a"]))
        self.assertEqual([one is tracker for one in {tracker: 1, twin: 2}], [True, False])


class History(unittest.TestCase):
    def test_as_they_were_passed(self):
        tracker = Tracker(list("abcde"))
        edges, items = [(0, 1), (1, 2), (1, 3)], list("bdace")
        tracker.bundle(edges)
        tracker.see_all(items)
        tracker.swap(3, 1)
        tracker.swap(1, 3)
        tracker.see(0, "b")
        tracker.bundle([])
        edges.append((3, 4))
        items.reverse()
        expected = [("bundle", [(0, 1), (1, 2), (1, 3)]), ("see_all", list("bdace")), ("swap", 3, 1),
                    ("swap", 1, 3), ("see", 0, "b"), ("bundle", [])]
        self.assertEqual(tracker.history(), expected)
        self.assertEqual(len(tracker), 6)
        self.assertTrue(all(type(call) is tuple for call in tracker.history()))

    def test_queries_and_errors_and_marks_are_no_calls(self):
        tracker = Tracker(list("abc"))
        told(tracker, 3, list("abc"))
        tracker.mark()
        tracker.undo_to(0)
        for name, *arguments in (("bundle", None), ("swap", 0, 0), ("see", 0, "b"), ("see", 9, "a"), ("undo",),
                                 ("see_all", list("bca")), ("undo_to", 7), ("may_hold", 9), ("where", "no")):
            self.assertIsNotNone(error_of(getattr(tracker, name), *arguments))
        self.assertEqual([tracker.history(), len(tracker)], [[], 0])


class Apart(unittest.TestCase):
    def made(self):
        listed = Tracker(list("abcde"))
        listed.bundle(A_EDGES)
        listed.bundle([(0, 4), (1, 2)])
        fitting = Tracker(list("abcde"))
        fitting.bundle(A_EDGES)
        fitting.see(2, "a")
        single = Tracker(list("abcde"))
        single.bundle([(0, 1)])
        single.see_all(list("bacde"))
        return [listed, fitting, single, Tracker(list("abcde"))]

    def lists_told(self, tracker):
        return [tracker.known(), tracker.history(), tracker.may_hold(0), tracker.where("a"), tracker.may_hold(0),
                tracker.known(), tracker.history(), tracker.where("a"), tracker.twin().known(),
                tracker.twin().history()]

    def test_returned_lists_are_new(self):
        for tracker in self.made():
            found = lists_inside(self.lists_told(tracker))
            self.assertEqual(len(set(map(id, found))), len(found))

    def test_changed_answers_change_nothing(self):
        for tracker in self.made():
            kept = repr(self.lists_told(tracker))
            for part in lists_inside(self.lists_told(tracker)):
                part.append("more")
                part.reverse()
            self.assertEqual(repr(self.lists_told(tracker)), kept)

    def test_arguments_stay_and_may_change_later(self):
        items, edges, last = list("abcde"), list(A_EDGES), list("bdace")
        kept = repr([items, edges, last])
        tracker = Tracker(items)
        tracker.bundle(edges)
        tracker.mark()
        twin = tracker.twin()
        tracker.see_all(last)
        tracker.bundle(edges)
        self.assertEqual(repr([items, edges, last]), kept)
        states = [told(one, 5, list("abcde")) for one in (tracker, twin)]
        for part in (items, edges, last):
            part.clear()
        self.assertEqual([told(one, 5, list("abcde")) for one in (tracker, twin)], states)
        twin.see(2, "a")
        self.assertEqual(twin.known(), [None, None, "a", None, "e"])
        tracker.undo_to(0)
        self.assertEqual(tracker.possible(), 6)
        tracker.undo()
        self.assertEqual(tracker.known(), list("abcde"))
        tracker.bundle(A_EDGES)
        self.assertIs(error_of(tracker.see_all, []), NoArrangement)


if __name__ == "__main__":
    unittest.main()
