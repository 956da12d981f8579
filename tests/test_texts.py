import re
import unittest

from onceswapped.errors import NoText
from onceswapped.texts import (
    read_edges, read_items, read_seen, read_turns, write_edges, write_items, write_seen, write_turns)
from tests.observing import some_observations
from tests.oracle import turns_by
from tests.samples import (
    LETTERS, items_for, lists_inside, mixed_forest, path_forest, shuffled, sized_forests, star_forest)

ITEM = re.compile("[a-z]{1,8}")
NUMBER = "(0|[1-9]|[12][0-9]|3[0-9])"
EDGE = re.compile(NUMBER + "-" + NUMBER)
ENTRY = re.compile(NUMBER)
SIGNS = "abz09134 -?\nA+._"


def items_by(words):
    """The items that words are, or None."""
    good = all(ITEM.fullmatch(word) for word in words) and len(set(words)) == len(words) <= 40
    return list(words) if good and words else None


def seen_by(words):
    items = [word for word in words if word != "?"]
    good = not items or items_by(items) is not None
    return [None if word == "?" else word for word in words] if good and 1 <= len(words) <= 40 else None


def edges_by(words):
    if words == ["-"]:
        return []
    if not all(EDGE.fullmatch(word) for word in words):
        return None
    edges = [tuple(map(int, word.split("-"))) for word in words]
    good = all(p < q for p, q in edges) and len(set(edges)) == len(edges)
    return edges if good and 1 <= len(edges) <= 100 else None


def turns_by_lines(lines):
    turns = []
    for line in lines:
        words = [] if line == "-" else line.split(" ")
        if not all(ENTRY.fullmatch(word) for word in words) or len(set(words)) < len(words):
            return None
        turns.append([int(word) for word in words])
    return turns if 1 <= len(turns) <= 40 else None


# For each kind: how it is read and written, what stands between its parts, and what parts are by the tests.
KINDS = {
    "items": (read_items, write_items, " ", items_by), "seen": (read_seen, write_seen, " ", seen_by),
    "edges": (read_edges, write_edges, " ", edges_by), "turns": (read_turns, write_turns, "\n", turns_by_lines)}


def first_bad(parts, value_by):
    """The first part that cannot stand after the ones before it: with it they begin no text."""
    for at in range(len(parts)):
        if value_by(parts[:at + 1]) is None:
            return at
    return None


def at_of(read, text):
    """The field of the NoText that a read function raises, or None."""
    try:
        read(text)
    except NoText as error:
        assert type(error) is NoText
        return error.at
    return None


def valid_texts():
    """Some texts of each kind."""
    long_items = [a + b for a in "abcde" for b in "stuvwxyz"]
    many_edges = [f"{p}-{q}" for p in range(5) for q in range(p + 1, 25)][:100]
    found = {"items": ["a", "b a", "abcdefgh a ab", " ".join(items_for(40)), " ".join(long_items)],
             "seen": ["?", "a", "? a ?", "? ? ?", "b ? a", " ".join(["?"] * 40), " ".join(long_items[:39] + ["?"])],
             "edges": ["-", "0-1", "0-1 1-2", "3-4 0-39", "38-39 9-10 0-9", " ".join(many_edges)],
             "turns": ["-", "1\n0 2\n1", "39", "-\n-", "0", "1 0\n-\n2 3 1", "\n".join(["10 0 9"] * 40),
                       " ".join(map(str, shuffled(range(40), 1)))]}
    for k, forest in enumerate(sized_forests()[::40] + [mixed_forest(40, 3), star_forest(40)]):
        before, seen = some_observations(forest, k)
        found["items"].append(" ".join(shuffled(before, k)))
        found["seen"] += [" ".join(entry or "?" for entry in one) for one in seen[4:7]]
        found["edges"].append(" ".join(f"{p}-{q}" for p, q in shuffled(forest[1], k)) or "-")
        turns = turns_by(forest, shuffled(forest[1], k))
        found["turns"].append("\n".join(" ".join(map(str, turn)) or "-" for turn in turns))
    return found


def changed_texts(text, separator):
    """A text with one change each."""
    places = range(len(text) + 1) if len(text) < 40 else list(range(0, len(text) + 1, 17)) + [len(text)]
    found = []
    for at in places:
        found += [text[:at] + sign + text[at:] for sign in SIGNS]
        found += [text[:at] + sign + text[at + 1:] for sign in SIGNS] + [text[:at] + text[at + 1:]]
    parts = text.split(separator)
    for at in range(len(parts)) if len(parts) < 9 else (0, 1, len(parts) // 2, len(parts) - 1):
        left = parts[:at] + parts[at + 1:]
        found += [separator.join(left), separator.join(parts[:at] + parts[at:at + 1] + parts[at:])]
        found += [separator.join([parts[at]] + left), separator.join(left + [parts[at]])]
        found += [separator.join(parts[:at] + [part] + parts[at + 1:]) for part in ("", "-", "?", "a", "40", "0-0")]
    return found + [text + separator + part for part in ("", "-", "?", "zz", "7", "7-8", "9 8")]


class Examples(unittest.TestCase):
    def test_of_the_document(self):
        self.assertEqual([write_items(["b", "a"]), read_items("b a")], ["b a", ["b", "a"]])
        self.assertEqual([write_seen([None, "a", None]), read_seen("? a ?")], ["? a ?", [None, "a", None]])
        self.assertEqual([write_edges([(0, 1), (1, 2)]), read_edges("0-1 1-2"), read_edges("-")],
                         ["0-1 1-2", [(0, 1), (1, 2)], []])
        self.assertEqual([write_turns([[1], [0, 2], [1]]), read_turns("1\n0 2\n1")],
                         ["1\n0 2\n1", [[1], [0, 2], [1]]])
        self.assertEqual([at_of(read_edges, "0-1 -"), at_of(read_edges, "- 0-1")], [1, 1])

    def test_by_name(self):
        self.assertEqual(read_items(text=write_items(items=["b", "a"])), ["b", "a"])
        self.assertEqual(read_seen(text=write_seen(seen=[None, "a"])), [None, "a"])
        self.assertEqual(read_edges(text=write_edges(edges=[(1, 2), (0, 1)])), [(1, 2), (0, 1)])
        self.assertEqual(read_turns(text=write_turns(turns=[[2, 1], []])), [[2, 1], []])

    def test_the_empty_string(self):
        for read, _, _, _ in KINDS.values():
            self.assertEqual(at_of(read, ""), 0)


class ThereAndBack(unittest.TestCase):
    def check(self, kind, value, text):
        read, write, separator, value_by = KINDS[kind]
        kept = repr(value)
        self.assertEqual(write(value), text)
        self.assertEqual(repr(value), kept)
        self.assertEqual(read(text), value)
        self.assertEqual(value_by(text.split(separator)), value)

    def test_items(self):
        for n in range(1, 41):
            self.check("items", items_for(n), " ".join(items_for(n)))
        for letter in LETTERS:
            for length in range(1, 9):
                self.check("items", [letter * length], letter * length)

    def test_observations(self):
        for k, forest in enumerate(sized_forests()[::5]):
            for seen in some_observations(forest, k)[1]:
                self.check("seen", seen, " ".join(entry or "?" for entry in seen))

    def test_edges(self):
        for k, forest in enumerate(sized_forests()[::3]):
            for edges in (forest[1], forest[1][::-1], shuffled(forest[1], k)):
                self.check("edges", edges, " ".join(f"{p}-{q}" for p, q in edges) or "-")
        for p in range(40):
            for q in range(p + 1, 40):
                self.check("edges", [(p, q)], f"{p}-{q}")
        # The edges of a list may close cycles.
        self.check("edges", [(0, 2), (0, 1), (1, 2)], "0-2 0-1 1-2")

    def test_turns(self):
        for k, forest in enumerate(sized_forests()[::3]):
            turns = turns_by(forest, shuffled(forest[1], k))
            self.check("turns", turns, "\n".join(" ".join(map(str, turn)) or "-" for turn in turns))
        for n in range(1, 41):
            self.check("turns", [[] for _ in range(n)], "\n".join("-" * n))
            self.check("turns", [[p] for p in range(n)], "\n".join(map(str, range(n))))
            self.check("turns", [list(range(n)), []], " ".join(map(str, range(n))) + "\n-")

    def test_different_values_have_different_texts(self):
        self.assertEqual(len({write_turns(turns) for turns in ([[1, 2]], [[12]], [[1], [2]], [[2, 1]], [[], [1]])}), 5)
        self.assertEqual(len({write_edges(edges) for edges in ([], [(1, 2)], [(1, 22)], [(11, 22)], [(1, 2), (2, 3)],
                                                               [(2, 3), (1, 2)])}), 6)


class OneChange(unittest.TestCase):
    def check(self, kind, text):
        read, write, separator, value_by = KINDS[kind]
        parts = text.split(separator)
        at = first_bad(parts, value_by)
        self.assertEqual(at_of(read, text), at, (kind, text))
        if at is None:
            self.assertEqual(read(text), value_by(parts))
            self.assertEqual(write(read(text)), text)
        return at

    def test_valid_texts(self):
        for kind, texts in valid_texts().items():
            for text in texts:
                self.assertIsNone(self.check(kind, text))

    def test_changed_texts(self):
        for kind, texts in valid_texts().items():
            counts = {True: 0, False: 0}
            for text in texts:
                for changed in changed_texts(text, KINDS[kind][2]):
                    counts[self.check(kind, changed) is None] += 1
            self.assertGreater(min(counts.values()), 100, kind)

    def test_texts_of_other_kinds(self):
        texts = [text for texts in valid_texts().values() for text in texts]
        for kind in KINDS:
            for text in texts:
                self.check(kind, text)


class Limits(unittest.TestCase):
    def expect(self, read, text, at):
        self.assertEqual(at_of(read, text), at, text)

    def test_forty_items(self):
        words = [a + b for a in "abcdef" for b in "stuvwxyz"][:42]
        for read in (read_items, read_seen):
            self.expect(read, " ".join(words[:40]), None)
            self.expect(read, " ".join(words[:41]), 40)
            self.expect(read, " ".join(words), 40)
            self.expect(read, " ".join(words[:40]) + " ", 40)
            self.expect(read, " ".join(words[:20] + words[:1] + words[20:]), 20)
        self.expect(read_seen, " ".join("?" * 41), 40)
        self.expect(read_seen, " ".join("?" * 40) + " a", 40)
        self.expect(read_items, "a ?", 1)
        self.expect(read_items, "?", 0)

    def test_a_hundred_edges(self):
        words = [f"{p}-{q}" for p in range(6) for q in range(p + 1, 30)][:102]
        self.expect(read_edges, " ".join(words[:100]), None)
        self.expect(read_edges, " ".join(words[:101]), 100)
        self.expect(read_edges, " ".join(words), 100)
        self.expect(read_edges, " ".join(words[:50] + words[:1] + words[50:]), 50)
        self.assertEqual(len(read_edges(" ".join(words[:100]))), 100)

    def test_forty_lines(self):
        for line in ("-", "0", "3 2 1"):
            self.expect(read_turns, "\n".join([line] * 40), None)
            self.expect(read_turns, "\n".join([line] * 41), 40)
            self.expect(read_turns, "\n".join([line] * 41) + "\n?", 40)
            self.expect(read_turns, "\n".join([line] * 40) + "\n", 40)

    def test_items(self):
        for text, at in (("abcdefgh", None), ("abcdefghi", 0), ("a abcdefghi", 1), ("a" * 4000, 0), ("a A", 1),
                         ("A", 0), ("aB", 0), ("a b a", 2), ("a a", 1), ("a  b", 1), (" a", 0), ("a ", 1), (" ", 0),
                         ("a\nb", 0), ("a b\n", 1), ("\na", 0), ("a \n b", 1), ("a1", 0), ("a - b", 1), ("-", 0),
                         ("a ? b", 1), ("a,b", 0), ("a b ", 2), ("a b  c", 2), ("z" * 8 + " z", None)):
            self.expect(read_items, text, at)

    def test_observations(self):
        for text, at in (("?", None), ("? ?", None), ("??", 0), ("? ??", 1), ("a? b", 0), ("? a a", 2), ("? a ? a", 3),
                         ("? ", 1), (" ?", 0), ("?  ?", 1), ("?\n?", 0), ("? -", 1), ("? abcdefghi", 1), ("? A", 1),
                         ("None", 0), ("? none", None), ("?\n", 0)):
            self.expect(read_seen, text, at)

    def test_edges(self):
        for text, at in (("-", None), ("- ", 1), (" -", 0), ("- -", 1), ("--", 0), ("0-1 -", 1), ("- 0-1", 1),
                         ("1-0", 0), ("0-0", 0), ("39-39", 0), ("0-39", None), ("0-40", 0), ("38-39", None),
                         ("39-40", 0), ("0-1 0-1", 1), ("0-1 1-2 0-1", 2), ("00-1", 0), ("0-01", 0), ("01-2", 0),
                         ("+0-1", 0), ("0-+1", 0), ("-0-1", 0), ("0--1", 0), ("0-1-2", 0), ("0-", 0), ("-1", 0),
                         ("0", 0), ("0 1", 0), ("0-1  1-2", 1), ("0-1 ", 1), (" 0-1", 0), ("0-1\n1-2", 0), ("a-b", 0),
                         ("0-1\n", 0), ("0-100", 0), ("0-1000000000", 0), ("0_1", 0), ("0-1,", 0), ("0 -1", 0),
                         ("0-" + "9" * 60, 0), ("0-1 1-2 2-3", None), ("2-3 0-1 1-2 0-2", None), ("0-1 ?", 1),
                         ("?", 0)):
            self.expect(read_edges, text, at)

    def test_turns(self):
        for text, at in (("-", None), ("-\n", 1), ("\n-", 0), ("-\n\n-", 1), ("- -", 0), ("-\n0 -", 1), ("0 1", None),
                         ("0  1", 0), (" 0", 0), ("0 ", 0), ("0\n0 ", 1), ("1 1", 0), ("0\n2 1 2", 1), ("39", None),
                         ("40", 0), ("0 40", 0), ("00", 0), ("01", 0), ("+1", 0), ("-1", 0), ("1\n-1", 1), ("a", 0),
                         ("1\n?", 1), ("0,1", 0), ("1\n\n1", 1), ("\n", 0), ("1\n2\n", 2), ("0-1", 0), ("9" * 60, 0),
                         ("1.0", 0), ("--", 0)):
            self.expect(read_turns, text, at)

    def test_the_error(self):
        with self.assertRaises(NoText) as caught:
            read_edges("0-1 1-2 2")
        self.assertIs(type(caught.exception), NoText)
        self.assertEqual(caught.exception.at, 2)
        self.assertIs(type(caught.exception.at), int)


class Apart(unittest.TestCase):
    def test_returned_lists_are_new(self):
        for read, text in ((read_items, "b a"), (read_seen, "? a"), (read_edges, "0-1"), (read_edges, "-"),
                           (read_turns, "-\n1 2\n-\n0")):
            answers = [read(text) for _ in range(3)]
            found = lists_inside(answers)
            self.assertEqual(len(set(map(id, found))), len(found))
            kept = repr(answers[2])
            for part in lists_inside(answers[:2]):
                part.append("more")
            self.assertEqual(repr([answers[2], read(text)]), f"[{kept}, {kept}]")

    def test_arguments_stay(self):
        for write, value in ((write_items, ["b", "a"]), (write_seen, [None, "a"]), (write_edges, path_forest(5)[1]),
                             (write_turns, [[1], [], [2, 3]])):
            kept = repr(value)
            text = write(value)
            self.assertEqual(repr(value), kept)
            for part in lists_inside(value):
                part.clear()
            self.assertIs(type(text), str)


if __name__ == "__main__":
    unittest.main()
