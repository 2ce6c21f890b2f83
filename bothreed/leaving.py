"""What is left of a pattern behind a sign, and which texts fit a pattern."""

from bothreed.endings import endings
from bothreed.forms import both, either, negated, normal, row_of
from bothreed.patterns import need_pattern, need_text
from bothreed.shapes import EMPTY, NONE, takes_empty


def empty(pattern):
    """Whether the text without signs fits the pattern."""
    return takes_empty(pattern)


def left(pattern, sign):
    """The pattern of what may follow: the texts that, behind the sign, fit the pattern."""
    return behind(normal(pattern), sign)


def left_of_each(letters, pattern):
    """What left tells of a pattern for each letter; the form is found once for all of them."""
    form = normal(pattern)
    return [behind(form, sign) for sign in letters]


def fits(letters, pattern, text):
    """Whether the text fits the pattern."""
    need_pattern(letters, pattern)
    need_text(letters, text)
    return endings(pattern, text)[0] >> len(text) == 1


def behind(pattern, sign):
    """What is left of a pattern that is in the fixed form, in that form again."""
    if pattern[0] == "sign" and pattern[1] == sign:
        return EMPTY
    if pattern[0] == "many":
        return row_of([behind(pattern[1], sign), pattern])
    if pattern[0] == "not":
        return negated(behind(pattern[1], sign))
    if pattern[0] == "row":
        return row_behind(pattern[1], sign)
    if pattern[0] == "or":
        return either([behind(part, sign) for part in pattern[1]])
    if pattern[0] == "and":
        return both([behind(part, sign) for part in pattern[1]])
    return NONE


def row_behind(parts, sign):
    """What is left of a row: the sign is taken by the first part that takes any."""
    found = []
    for at, part in enumerate(parts):
        rest = parts[at + 1:]
        found.append(row_of([behind(part, sign), *rest]))
        if not takes_empty(part):
            break
    return either(found)
