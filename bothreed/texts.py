"""How a pattern is written, and the pattern that a text writes."""

from bothreed.errors import NoText, TooGreat
from bothreed.levels import Level
from bothreed.patterns import MOST_NODES, is_letter, need_letters, nodes
from bothreed.shapes import EMPTY, NONE

MOST_WRITTEN = 400

# What stands between the parts.
MARKS = {"row": "", "and": "&", "or": "|"}

# Which parts stand in brackets.
BRACKETED = {
    "row": ("row", "and", "or"),
    "and": ("and", "or"),
    "or": ("or",),
    "many": ("row", "and", "or", "not"),
    "not": ("row", "and", "or"),
}


def shown(pattern):
    """The text that writes a pattern."""
    kind = pattern[0]
    if kind == "none":
        return "[]"
    if kind == "empty":
        return "()"
    if kind == "sign":
        return pattern[1]
    if kind == "many":
        return part_shown(kind, pattern[1]) + "*"
    if kind == "not":
        return "!" + part_shown(kind, pattern[1])
    mark = MARKS[kind]
    return mark.join([part_shown(kind, part) for part in pattern[1]])


def part_shown(kind, part):
    """The text that writes a part of a pattern of this kind."""
    text = shown(part)
    if part[0] in BRACKETED[kind]:
        return "(" + text + ")"
    return text


def read(letters, text):
    """The pattern that a text writes."""
    need_letters(letters)
    if not isinstance(text, str):
        raise NoText("this is no text")
    if len(text) > MOST_WRITTEN:
        raise TooGreat("what is read has at most 400 signs")
    pattern = written(letters, text)
    if nodes(pattern) > MOST_NODES:
        raise TooGreat("a pattern has at most 60 nodes")
    return pattern


def written(letters, text):
    """The pattern that a text writes, however many nodes it has."""
    # The open brackets are a list, not calls within calls: there may be too many of them for that.
    levels = [Level()]
    for word in words(text):
        if word == "(":
            levels.append(Level())
        elif word == ")":
            close_level(levels)
        else:
            take_word(letters, levels[-1], word)
    if len(levels) > 1:
        raise NoText("a bracket is not closed")
    return levels[0].told()


def words(text):
    """The signs of a text; two of them where brackets hold nothing."""
    found = []
    at = 0
    while at < len(text):
        size = 2 if text[at:at + 2] in ("()", "[]") else 1
        found.append(text[at:at + size])
        at += size
    return found


def close_level(levels):
    """What the last brackets hold is an atom of the level around them."""
    if len(levels) == 1:
        raise NoText("a bracket is closed that is not open")
    inner = levels.pop()
    levels[-1].take_atom(inner.told())


def take_word(letters, level, word):
    """Read a word that is no bracket by itself."""
    if word == "!":
        level.take_not()
    elif word == "*":
        level.take_star()
    elif word == "&":
        level.end_half()
    elif word == "|":
        level.end_branch()
    elif word == "()":
        level.take_atom(EMPTY)
    elif word == "[]":
        level.take_atom(NONE)
    elif is_letter(letters, word):
        level.take_atom(("sign", word))
    else:
        raise NoText("a sign writes nothing")
