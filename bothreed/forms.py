"""Patterns put together in one fixed form, so that what is left of them stays small and finite.

Each function takes parts that are in this form and tells a pattern in it that is fitted by the same
texts as the plain one: parts in a fixed order, none twice or for nothing, no row within a row and
so on. From one pattern come finitely many in this form, as Brzozowski has shown for less of it.
"""

from bothreed.covering import covers, pieces_of
from bothreed.shapes import ALL, EMPTY, NONE, takes_empty


def normal(pattern):
    """A pattern in the fixed form that the same texts fit."""
    if pattern[0] == "many":
        return many_of(normal(pattern[1]))
    if pattern[0] == "not":
        return negated(normal(pattern[1]))
    if pattern[0] == "row":
        return row_of([normal(part) for part in pattern[1]])
    if pattern[0] == "or":
        return either([normal(part) for part in pattern[1]])
    if pattern[0] == "and":
        return both([normal(part) for part in pattern[1]])
    return pattern


def negated(pattern):
    """The not of a pattern."""
    if pattern[0] == "not":
        return pattern[1]
    return ("not", pattern)


def either(parts):
    """The or of any number of parts."""
    kept = needed(spread("or", parts), covered)
    for part in kept:
        # What does not fit this not fits what the other one covers, so every text fits one of them.
        if part[0] == "not" and any(covers(other, part[1]) for other in kept):
            return ALL
    return joined("or", kept, NONE)


def both(parts):
    """The and of any number of parts."""
    kept = needed(spread("and", parts), covers)
    if EMPTY in kept and len(kept) > 1:
        # A part that takes the empty text covers EMPTY and is gone, so the others don't take it.
        return NONE
    for part in kept:
        if part[0] == "not" and any(covers(part[1], other) for other in kept):
            return NONE
    return joined("and", kept, ALL)


def joined(kind, parts, nothing):
    """A pattern of the parts, or the only one itself, or what stands for none of them."""
    if not parts:
        return nothing
    if len(parts) == 1:
        return parts[0]
    return (kind, tuple(parts))


def needed(parts, idle):
    """The parts in their order, without those that are idle beside another one."""
    kept = []
    for part in sorted(parts):
        if any(idle(part, other) for other in kept):
            continue
        kept = [other for other in kept if not idle(other, part)]
        kept.append(part)
    return kept


def covered(small, big):
    """Whether the small one is seen to be covered by the big one."""
    return covers(big, small)


def spread(kind, parts):
    """The parts, and for a part of the same kind its own parts instead."""
    found = []
    for part in parts:
        if part[0] == kind:
            found.extend(part[1])
        else:
            found.append(part)
    return found


def row_of(parts):
    """The row of any number of parts."""
    kept = shortened([part for part in spread("row", parts) if part != EMPTY])
    if NONE in kept:
        return NONE
    if kept and kept[0][0] == "or":
        # Apart, the rows meet again with those that other ways lead to, and are told once.
        rest = kept[1:]
        return either([row_of([first, *rest]) for first in kept[0][1]])
    return joined("row", kept, EMPTY)


def shortened(parts):
    """The parts of a row without those that the one beside them takes along."""
    kept = []
    for part in parts:
        if kept and takes_along(kept[-1], part):
            continue
        while kept and takes_along(part, kept[-1]):
            kept.pop()
        kept.append(part)
    return kept


def takes_along(greedy, part):
    """Whether the row of both, in either order, is fitted by the same texts as the greedy one."""
    if greedy[0] != "many" and greedy != ALL:
        return False
    return takes_empty(part) and covers(greedy, part)


def many_of(pattern):
    """The many of a pattern."""
    kept = sorted(piece_kinds(pattern))
    for piece in list(kept):
        others = [other for other in kept if other != piece]
        if others and covers(("many", either(others)), piece):
            kept = others
    inner = either(kept)
    if inner == NONE:
        return EMPTY
    if inner == ALL:
        return ALL
    return ("many", inner)


def piece_kinds(pattern):
    """Patterns whose or has the same many as the pattern, as many and without empty ones as can be."""
    if pattern in (NONE, EMPTY):
        return []
    if pattern[0] == "many":
        return piece_kinds(pattern[1])
    if pattern[0] == "or" or pattern[0] == "row" and takes_empty(pattern):
        return [piece for part in pattern[1] for piece in piece_kinds(part)]
    return [pattern]
