"""Texts of items, observations, edges and turns; each value has exactly one."""

from onceswapped.arrange import is_item
from onceswapped.errors import NoText
from onceswapped.forests import MOST_POSITIONS, is_edge, is_position

MOST_EDGES = 100
MOST_DIGITS = 9
UNSEEN = "?"
EMPTY = "-"


def number_in(word):
    """Return the number that a word of one to nine digits without leading zeros is, or None."""
    if not 1 <= len(word) <= MOST_DIGITS or not all(["0" <= sign <= "9" for sign in word]):
        return None
    if word[0] == "0" and word != "0":
        return None
    return int(word)


def pair_in(word):
    """Return the pair of numbers that a word with one dash between them is, or None."""
    numbers = [number_in(part) for part in word.split("-")]
    if len(numbers) != 2 or None in numbers:
        return None
    return (numbers[0], numbers[1])


def write_items(items):
    """Return the text of the items of an arrangement."""
    return " ".join(items)


def read_items(text):
    """Return the items of an arrangement from their text."""
    items = []
    for at, word in enumerate(text.split(" ")):
        if at >= MOST_POSITIONS or not is_item(word) or word in items:
            raise NoText(at)
        items.append(word)
    return items


def write_seen(seen):
    """Return the text of a list of items and None."""
    return " ".join([UNSEEN if entry is None else entry for entry in seen])


def read_seen(text):
    """Return the list of items and None from its text."""
    seen = []
    for at, word in enumerate(text.split(" ")):
        if at >= MOST_POSITIONS:
            raise NoText(at)
        if word == UNSEEN:
            seen.append(None)
        elif is_item(word) and word not in seen:
            seen.append(word)
        else:
            raise NoText(at)
    return seen


def write_edges(edges):
    """Return the text of a list of edges."""
    if not edges:
        return EMPTY
    return " ".join([f"{p}-{q}" for p, q in edges])


def read_edges(text):
    """Return the list of edges from its text."""
    words = text.split(" ")
    if words[0] == EMPTY:
        if len(words) > 1:
            raise NoText(1)
        return []
    edges = []
    for at, word in enumerate(words):
        edge = pair_in(word)
        if at >= MOST_EDGES or not is_edge(MOST_POSITIONS, edge) or edge in edges:
            raise NoText(at)
        edges.append(edge)
    return edges


def write_turns(turns):
    """Return the text of a list of turns."""
    return "\n".join([" ".join([str(entry) for entry in turn]) if turn else EMPTY for turn in turns])


def _turn_in(line):
    """Return the turn that a line is, or None."""
    if line == EMPTY:
        return []
    turn = [number_in(word) for word in line.split(" ")]
    if not all([is_position(MOST_POSITIONS, entry) for entry in turn]) or len(set(turn)) < len(turn):
        return None
    return turn


def read_turns(text):
    """Return the list of turns from its text."""
    turns = []
    for at, line in enumerate(text.split("\n")):
        turn = _turn_in(line)
        if at >= MOST_POSITIONS or turn is None:
            raise NoText(at)
        turns.append(turn)
    return turns
