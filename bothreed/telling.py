"""Whether two patterns are alike."""

from bothreed.leaving import empty
from bothreed.leavings import Leavings
from bothreed.patterns import need_pattern
from bothreed.trail import text_along


def told_alike(letters, one, other):
    """A table that shows two patterns alike, or the first text that fits just one of them."""
    need_pattern(letters, one)
    need_pattern(letters, other)
    leavings = Leavings(letters)
    pairs = [(leavings.number_of(one), leavings.number_of(other))]
    met = {pairs[0]: True}
    trail = [(0, "")]
    at = 0
    while at < len(pairs):
        if parted(leavings, pairs[at]):
            return ("unlike", text_along(trail, at))
        rests = pairs_behind(leavings, pairs[at])
        for sign, pair in rests:
            if pair not in met:
                met[pair] = True
                pairs.append(pair)
                trail.append((at, sign))
        at += 1
    patterns = leavings.patterns
    return ("alike", [(patterns[first], patterns[second]) for first, second in pairs])


def parted(leavings, pair):
    """Whether the text without signs fits just one of a pair."""
    first, second = pair
    return empty(leavings.patterns[first]) != empty(leavings.patterns[second])


def pairs_behind(leavings, pair):
    """Each letter with the pair of what is left of both behind it."""
    first, second = pair
    heres = leavings.behind(first)
    theres = leavings.behind(second)
    return [(sign, (here, there)) for sign, here, there in zip(leavings.letters, heres, theres)]
