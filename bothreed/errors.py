"""The refusals of this package."""


class PatternError(ValueError):
    """Any refusal."""


class NoLetters(PatternError):
    """What was handed in as letters is none."""


class NoPattern(PatternError):
    """What was handed in as a pattern is none over the letters."""


class TooGreat(PatternError):
    """A pattern has too many nodes, or a text too many signs."""


class NoText(PatternError):
    """What was handed in as a text is none over the letters, or tells no pattern."""


class NoRoom(PatternError):
    """What was handed in as a room is none of the machine."""
