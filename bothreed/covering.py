"""A quick look whether one pattern is fitted by all texts that fit another one."""

from bothreed.shapes import ALL, EMPTY, NONE, takes_empty

# How far the look goes into the patterns: it is asked for very many pairs, so its cost needs a bound.
DEPTH = 8


def covers(big, small, depth=DEPTH):
    """True only if each text that fits the small one fits the big one; False may also be "not seen"."""
    if big == small or big == ALL or small == NONE:
        return True
    if small == EMPTY:
        return takes_empty(big)
    if depth == 0:
        return False
    if small[0] == "or":
        return all(covers(big, part, depth - 1) for part in small[1])
    if big[0] == "and":
        return all(covers(part, small, depth - 1) for part in big[1])
    if big[0] == "or" and any(covers(part, small, depth - 1) for part in big[1]):
        return True
    if small[0] == "and" and any(covers(big, part, depth - 1) for part in small[1]):
        return True
    return covers_by_shape(big, small, depth - 1)


def covers_by_shape(big, small, depth):
    """The look for a big one that is a not, a many or a row."""
    if big[0] == "not" and small[0] == "not":
        return covers(small[1], big[1], depth)
    if big[0] == "many":
        return many_covers(big, small, depth)
    if big[0] == "row":
        return row_covers(big[1], pieces_of(small), depth)
    return False


def many_covers(big, small, depth):
    """The look for a many: whether the small one can be cut into pieces that it takes."""
    if small[0] == "many":
        return covers(big, small[1], depth)
    if small[0] == "row" and all(covers(big, part, depth) for part in small[1]):
        return True
    return covers(big[1], small, depth)


def row_covers(bigs, smalls, depth):
    """The look for a row: the first parts may take nothing, each other one covers its fellow."""
    gap = len(bigs) - len(smalls)
    if gap < 0 or not all(takes_empty(part) for part in bigs[:gap]):
        return False
    for big, small in zip(bigs[gap:], smalls):
        if not covers(big, small, depth):
            return False
    return True


def pieces_of(pattern):
    """The parts of a row; anything else is a row of itself."""
    if pattern[0] == "row":
        return pattern[1]
    return (pattern,)
