"""Sessions: lines of text that lead one tracker, and the answers to them."""

from onceswapped.errors import (
    NoArrangement, NoEdge, NoForest, NoItem, NoNumber, NoPosition, Nothing, NotReached, TooMany)
from onceswapped.live import Tracker
from onceswapped.texts import number_in, pair_in, write_seen

DONE = "ok"
NO_LINE = "?"
# What stands behind the first word of a line: N is a number, E a pair P-Q and X any word.
KINDS = {"swap": "NN", "see": "NX", "known": "", "possible": "", "hold": "N", "where": "X",
         "undo": "", "mark": "", "back": "N"}
# Behind these first words one or more words stand, all of one kind.
REPEATED = {"items": "X", "bundle": "E", "all": "X"}


def _read(kind, word):
    """Return what a word of a kind says, or None if it is none."""
    if kind == "N":
        return number_in(word)
    if kind == "E":
        return pair_in(word)
    return word


def _arguments(words):
    """Return what the words behind the first one of a line say, or None if it is no line."""
    first, rest = words[0], words[1:]
    kinds = KINDS.get(first)
    if first in REPEATED and rest:
        kinds = REPEATED[first] * len(rest)
    if kinds is None or len(kinds) != len(rest) or "" in rest:
        return None
    found = [_read(kind, word) for kind, word in zip(kinds, rest)]
    return None if None in found else found


def _fractions(entries):
    return ", ".join([f"{what} {top}/{bottom}" for what, (top, bottom) in entries])


def _change(tracker, first, told):
    """Make the call of a line that returns None."""
    if first == "bundle":
        tracker.bundle(sorted(told))
    elif first == "swap":
        tracker.swap(told[0], told[1])
    elif first == "see":
        tracker.see(told[0], told[1])
    elif first == "all":
        tracker.see_all(told)
    elif first == "undo":
        tracker.undo()
    else:
        tracker.undo_to(told[0])


def _answer(tracker, first, told):
    """Make the call of a line and return the answer."""
    if first == "known":
        return write_seen(tracker.known())
    if first == "possible":
        return str(tracker.possible())
    if first == "hold":
        return _fractions(tracker.may_hold(told[0]))
    if first == "where":
        return _fractions(tracker.where(told[0]))
    if first == "mark":
        return str(tracker.mark())
    _change(tracker, first, told)
    return DONE


def _answer_or_error(tracker, first, told):
    """Make the call of a line and return the answer, or the name of the class of its error."""
    try:
        return _answer(tracker, first, told)
    except NoForest:
        return "NoForest"
    except NoPosition:
        return "NoPosition"
    except NoEdge:
        return "NoEdge"
    except NoItem:
        return "NoItem"
    except NoArrangement:
        return "NoArrangement"
    except NoNumber:
        return "NoNumber"
    except Nothing:
        return "Nothing"
    except NotReached:
        return "NotReached"
    except TooMany:
        return "TooMany"


def _begun(items):
    """Return a new tracker, or None if the items are no arrangement."""
    try:
        return Tracker(items)
    except NoArrangement:
        return None


def session(rows):
    """Return the answers to the lines of a string, one line for each."""
    tracker = None
    answers = []
    for row in rows.split("\n"):
        words = row.split(" ")
        told = _arguments(words)
        if words[0] == "items" and told is not None:
            begun = _begun(told)
            tracker = tracker if begun is None else begun
            answers.append("NoArrangement" if begun is None else DONE)
        elif told is None or tracker is None:
            answers.append(NO_LINE)
        else:
            answers.append(_answer_or_error(tracker, words[0], told))
    return "\n".join(answers)
