import random
import re
import unittest

from onceswapped.session import session
from tests.plain_tracker import PlainTracker
from tests.samples import error_of, items_for, mixed_forest, shuffled, spelled_out, star_forest

NUMBER = "(?:0|[1-9][0-9]{0,8})"
FORMS = [re.compile(form.replace("N", NUMBER).replace("X", "[^ ]+")) for form in (
    "items(?: X)+", "bundle(?: N-N)+", "swap N N", "see N X", "all(?: X)+", "known", "possible", "hold N",
    "where X", "undo", "mark", "back N")]
NAMES = {"all": "see_all", "hold": "may_hold", "back": "undo_to"}
START = "items a b c d e\nbundle 0-1 1-2 1-3"


def told_by(row):
    """The first word of a line and the arguments that the others say, or None."""
    if not any(form.fullmatch(row) for form in FORMS):
        return None
    first, *words = row.split(" ")
    if first == "bundle":
        return first, [sorted(tuple(map(int, word.split("-"))) for word in words)]
    if first in ("items", "all"):
        return first, [words]
    return first, [int(word) if re.fullmatch(NUMBER, word) and not (first, at) in (("see", 1), ("where", 0))
                   else word for at, word in enumerate(words)]


def plain_answer(plain, first, arguments):
    found = getattr(plain, NAMES.get(first, first))(*arguments)
    if isinstance(found, tuple):
        return found[0]
    if first in ("possible", "mark"):
        return str(found)
    if first == "known":
        return " ".join(entry or "?" for entry in found)
    if first in ("hold", "where"):
        return ", ".join(f"{key} {top}/{bottom}" for key, (top, bottom) in found)
    return "ok"


def plain_session(rows):
    """What a session of up to seven items must answer."""
    plain = None
    answers = []
    for row in rows.split("\n"):
        line = told_by(row)
        if line is not None and line[0] == "items":
            words = line[1][0]
            good = len(words) <= 40 and spelled_out(words, len(words))
            plain = PlainTracker(words) if good else plain
            answers.append("ok" if good else "NoArrangement")
        elif line is None or plain is None:
            answers.append("?")
        else:
            answers.append(plain_answer(plain, *line))
    return "\n".join(answers)


def last(rows, start=START):
    """The answer to the last of some lines."""
    return session(start + "\n" + rows).split("\n")[-1]


class Chance:
    """Lines by chance, most of them valid."""

    def __init__(self, seed):
        self.chance = random.Random(seed)
        self.n = seed % 6 + 2
        self.items = items_for(self.n)

    def pick(self, *choices):
        return self.chance.choice(choices)

    def place(self):
        return str(self.pick(*list(range(self.n)) * 5, self.n, 40, 123456789))

    def item(self):
        return self.pick(*self.items * 6, "no", "A", "?", "-", "0")

    def bundle(self):
        edges = mixed_forest(self.n, self.chance.randrange(10 ** 6), self.pick(0.3, 0.6, 0.9))[1]
        words = [f"{p}-{q}" for p, q in edges] or ["0-1"]
        if self.chance.random() < 0.1:
            words.append(self.pick("1-0", "0-0", "0-1", f"0-{self.n}", "999999999-0"))
        return "bundle " + " ".join(shuffled(words, self.chance.random()))

    def row(self):
        rows = [self.bundle()] * 5 + [f"swap {self.place()} {self.place()}", f"see {self.place()} {self.item()}",
                f"see {self.place()} {self.item()}", "all " + " ".join(shuffled(self.items, self.chance.random())),
                "known", "possible", f"hold {self.place()}", f"where {self.item()}", "undo", "undo", "mark", "mark",
                f"back {self.pick('0', '1', '2', '3', '999999999')}"]
        row = self.pick(*rows)
        if self.chance.random() < 0.12:
            row = self.spoiled(row)
        if self.chance.random() < 0.02:
            row = "items " + " ".join(self.items + self.pick([], [], ["a"], ["A"]))
        return row

    def spoiled(self, row):
        at = self.chance.randrange(len(row) + 1)
        sign = self.pick("", " ", "-", "0", "1", "x", "+", ".", "?")
        return self.pick(row[:at] + sign + row[at:], row[:at] + sign + row[at + 1:], row + " " + sign, "", " " + row,
                         row.upper(), row + " 1", row + " a", row.rsplit(" ", 1)[0], row.replace(" ", "  "))


class Examples(unittest.TestCase):
    def test_of_the_document(self):
        self.assertEqual(session("items a b\nswap 0 1\nknown"), "ok\nok\nb a")
        self.assertEqual(session(rows="items a b\nswap 0 1\nknown"), "ok\nok\nb a")
        self.assertEqual(last("bundle 1-0"), "NoForest")

    def test_the_empty_string(self):
        self.assertEqual(session(""), "?")
        self.assertEqual(session("\n"), "?\n?")
        self.assertEqual(session("items a\n"), "ok\n?")

    def test_every_kind_of_line(self):
        rows = ["items a b c d e", "bundle 0-1 1-2 1-3", "possible", "known", "see 2 a", "hold 3", "where a", "mark",
                "swap 4 0", "known", "all e d a c b", "possible", "undo", "back 0", "mark", "where c", "hold 4"]
        answers = ["ok", "ok", "6", "? ? ? ? e", "ok", "b 1/2, c 1/2", "2 1/1", "0", "ok", "e ? a ? ?", "ok", "1", "ok",
                   "ok", "1", "1 1/2, 3 1/2", "e 1/1"]
        self.assertEqual(session("\n".join(rows)).split("\n"), answers)
        self.assertEqual(plain_session("\n".join(rows)).split("\n"), answers)


class AgainstAPlainSession(unittest.TestCase):
    def test_by_chance(self):
        kinds = set()
        for seed in range(150):
            chance = Chance(seed)
            rows = "\n".join(["items " + " ".join(chance.items)] + [chance.row() for _ in range(60)])
            answers = session(rows)
            self.assertEqual(answers.split("\n"), plain_session(rows).split("\n"), rows)
            for row, answer in zip(rows.split("\n"), answers.split("\n")):
                kinds.add((row.split(" ")[0], answer if answer[:1] in "NT?" or answer == "ok" else "told"))
        expected = [(first, "ok") for first in ("items", "bundle", "swap", "see", "all", "undo", "back")]
        expected += [(first, "told") for first in ("known", "possible", "hold", "where", "mark")]
        expected += [("items", "NoArrangement"), ("bundle", "NoForest"), ("bundle", "TooMany"), ("swap", "NoEdge"),
                     ("see", "NoPosition"), ("see", "NoItem"), ("see", "NotReached"), ("all", "NoArrangement"),
                     ("all", "NotReached"), ("hold", "NoPosition"), ("where", "NoItem"), ("undo", "Nothing"),
                     ("back", "NoNumber"), ("bundle", "?"), ("swap", "?"), ("see", "?"), ("undo", "?"), ("mark", "?")]
        self.assertEqual([pair for pair in expected if pair not in kinds], [])

    def test_three_hundred_lines(self):
        for seed in range(4):
            chance = Chance(seed)
            chance.n, chance.items = 5, items_for(5)
            rows = ["items " + " ".join(chance.items)] + [chance.row() for _ in range(299)]
            self.assertEqual(session("\n".join(rows)), plain_session("\n".join(rows)))
            self.assertEqual(len(session("\n".join(rows)).split("\n")), 300)


class NoLines(unittest.TestCase):
    WRONG = [
        "", " ", "  ", "item a", "Items a b", "ITEMS a", "items", "items ", "items  a", " items a", "items a ",
        "items a  b", "bundle", "bundle ", "bundle 0", "bundle 0-", "bundle -1", "bundle 0-1-2", "bundle 0 1",
        "bundle 0-1 ", "bundle  0-1", "bundle 0-1  1-2", "bundle 00-1", "bundle 0-01", "bundle +0-1", "bundle 0--1",
        "bundle 0-1 1", "bundle a-b", "bundle 0-1,1-2", "bundle -", "bundle 0-1000000000", "bundle 0_1", "bundle 0- 1",
        "swap", "swap 0", "swap 0 1 2", "swap 00 1", "swap 0 01", "swap +0 1", "swap -1 0", "swap 0 -1", "swap 0  1",
        "swap 0 1 ", " swap 0 1", "swap a b", "swap 0-1", "swap 1000000000 0", "swap 0 0000000001", "swap 0 1.0",
        "see", "see 0", "see a", "see a 0", "see 0 a b", "see 00 a", "see -1 a", "see +1 a", "see 0  a", "see 0 ",
        "see 1000000000 a", "see 0 a ", "all", "all ", "all a  b", "all a b ", "known 0", "known ", " known", "knowns",
        "Known", "possible 1", "possible ", "hold", "hold a", "hold 00", "hold -1", "hold 0 1", "hold +0", "hold ",
        "hold 1000000000", "hold 0 ", "where", "where ", "where a b", "where  a", "undo 1", "undo ", "undo undo",
        "mark 0", "mark ", "back", "back a", "back -1", "back 00", "back 0 0", "back +0", "back 1000000000", "back ",
        "?", "-", "ok", "help", "undo_to 0", "see_all a b c d e", "may_hold 0", "history", "len", "twin", "0", "#",
        "bundle 0-1\t1-2", "swap\t0 1"]

    def test_wrong_lines_change_nothing(self):
        ask = "possible\nknown\nhold 0\nhold 2\nwhere a\nmark"
        start = START + "\nsee 2 a"
        expected = session(start + "\n" + ask).split("\n")
        for row in self.WRONG:
            found = session(f"{start}\n{row}\n{ask}").split("\n")
            self.assertEqual(found[3], "?", row)
            self.assertEqual(found[:3] + found[4:], expected, row)
            self.assertEqual(plain_session(f"{start}\n{row}\n{ask}").split("\n"), found)

    def test_before_the_first_valid_items_line(self):
        rows = ["known", "possible", "bundle 0-1", "bundle 1-0", "swap 0 1", "swap 9 9", "see 0 a", "all a b", "hold 0",
                "where a", "undo", "mark", "back 0", "items A", "known", "items a a", "undo", "", "items", "mark",
                "items a b", "known", "mark"]
        answers = ["?"] * 13 + ["NoArrangement", "?", "NoArrangement"] + ["?"] * 4 + ["ok", "a b", "0"]
        self.assertEqual(session("\n".join(rows)).split("\n"), answers)

    def test_other_strings(self):
        for text in ("a", "items", " ", "x" * 4000, "\n" * 299, "items a b\n" + "known\n" * 299):
            answers = session(text).split("\n")
            self.assertEqual(len(answers), text.count("\n") + 1)
            self.assertEqual(answers, plain_session(text).split("\n"))


class Lines(unittest.TestCase):
    def test_items(self):
        self.assertEqual(last("items c d\nknown"), "c d")
        self.assertEqual(last("items c d\nundo"), "Nothing")
        self.assertEqual(last("mark\nitems c d\nmark"), "0")
        self.assertEqual(last("mark\nitems c d\nback 0"), "NoNumber")
        for row in ("items A", "items a a", "items abcdefghi", "items a ?", "items 0", "items -", "items a b-c",
                    "items " + " ".join(items_for(40) + ["more"]), "items a.b"):
            self.assertEqual(last(row), "NoArrangement", row)
            self.assertEqual(last(f"see 2 a\n{row}\npossible"), "2")
            self.assertEqual(last(f"mark\n{row}\nmark"), "1")
        self.assertEqual(last("items " + " ".join(items_for(40)) + "\nknown"), " ".join(items_for(40)))

    def test_bundle(self):
        for row in ("bundle 0-1 1-2 1-3", "bundle 1-3 1-2 0-1", "bundle 1-2 0-1 1-3"):
            self.assertEqual(last(row + "\npossible", "items a b c d e"), "6")
        for row in ("bundle 1-0", "bundle 0-1 0-1", "bundle 0-0", "bundle 0-5", "bundle 0-1 1-2 0-2", "bundle 4-3 0-1",
                    "bundle 0-999999999", "bundle 999999999-999999999", "bundle 0-1 2-1", "bundle 5-6"):
            self.assertEqual(last(row), "NoForest", row)
            self.assertEqual(last(row + "\npossible"), "6")

    def test_swap(self):
        self.assertEqual(last("swap 4 0\nhold 0"), "e 1/1")
        self.assertEqual(last("swap 0 4\nhold 0"), "e 1/1")
        for row in ("swap 0 0", "swap 5 0", "swap 0 5", "swap 999999999 0", "swap 123456789 123456789"):
            self.assertEqual(last(row), "NoEdge")

    def test_see_and_all(self):
        for row, answer in (("see 5 a", "NoPosition"), ("see 999999999 x", "NoPosition"), ("see 0 x", "NoItem"),
                            ("see 0 A", "NoItem"), ("see 0 ?", "NoItem"), ("see 0 0", "NoItem"),
                            ("see 0 a", "NotReached"), ("see 2 a", "ok"), ("all b d a c e", "ok"), ("all a b c d e", "NotReached"),
                            ("all a b c d", "NoArrangement"), ("all a b c d f", "NoArrangement"),
                            ("all a a b c d", "NoArrangement"), ("all ? ? a ? e", "NoArrangement"),
                            ("all " + "a " * 50 + "b", "NoArrangement"), ("all 0", "NoArrangement")):
            self.assertEqual(last(row), answer, row)

    def test_hold_and_where(self):
        self.assertEqual(last("hold 0"), "b 1/3, c 1/3, d 1/3")
        self.assertEqual(last("hold 4"), "e 1/1")
        self.assertEqual(last("where e"), "4 1/1")
        self.assertEqual(last("where a"), "1 1/3, 2 1/3, 3 1/3")
        self.assertEqual(last("hold 5"), "NoPosition")
        self.assertEqual(last("hold 999999999"), "NoPosition")
        for item in ("f", "A", "0", "?", "-1", "a,"):
            self.assertEqual(last("where " + item), "NoItem")

    def test_marks(self):
        self.assertEqual(session(START + "\nmark\nmark\nsee 2 a\nmark\nback 1\nmark\nback 3\npossible").split("\n")[2:],
                         ["0", "1", "ok", "2", "ok", "2", "NoNumber", "6"])
        self.assertEqual(last("back 0"), "NoNumber")
        self.assertEqual(last("mark\nback 999999999"), "NoNumber")
        self.assertEqual(last("undo\nundo"), "Nothing")

    def test_large_ones(self):
        star = "bundle " + " ".join(f"{p}-{q}" for p, q in star_forest(40)[1])
        rows = ["items " + " ".join(items_for(40)), star, "possible", "swap 0 1", star, "known", "hold 0", "undo", star]
        answers = session("\n".join(rows)).split("\n")
        self.assertEqual(answers[2], "20397882081197443358640281739902897356800000000")
        self.assertEqual(answers[3:6], ["TooMany", "TooMany", " ".join("?" * 40)])
        self.assertEqual(answers[6].count(", "), 38)
        self.assertEqual(answers[6].count(" 1/39"), 39)
        self.assertEqual(answers[7:], ["ok", "ok"])

    def test_sessions_are_apart(self):
        rows = START + "\nmark\nsee 2 a\npossible\nmark"
        self.assertEqual(session(rows), session(rows))
        self.assertEqual(session("known"), "?")
        self.assertIsNone(error_of(session, rows))


if __name__ == "__main__":
    unittest.main()
