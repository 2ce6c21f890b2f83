"""The patterns that answers come down to, and which patterns the empty text fits."""

NONE = ("none",)
EMPTY = ("empty",)
ALL = ("not", ("none",))


def takes_empty(pattern):
    """Whether the text without signs fits the pattern."""
    if pattern[0] == "not":
        return not takes_empty(pattern[1])
    if pattern[0] == "or":
        return any(takes_empty(part) for part in pattern[1])
    if pattern[0] in ("row", "and"):
        return all(takes_empty(part) for part in pattern[1])
    return pattern[0] in ("empty", "many")
