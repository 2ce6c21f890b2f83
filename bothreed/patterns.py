"""Letters, texts and patterns: what they are, and the refusal of what is none."""

from bothreed.errors import NoLetters, NoPattern, NoText, TooGreat

MOST_LETTERS = 4
MOST_SIGNS = 200
MOST_NODES = 60


def need_letters(letters):
    """Refuse what is no text of 1 to 4 unlike signs from a to z."""
    if not isinstance(letters, str):
        raise NoLetters("letters are a text")
    if not 1 <= len(letters) <= MOST_LETTERS:
        raise NoLetters("there are 1 to 4 letters")
    if not all("a" <= sign <= "z" for sign in letters):
        raise NoLetters("letters are signs from a to z")
    if len(set(letters)) != len(letters):
        raise NoLetters("each letter stands once")


def need_text(letters, text):
    """Refuse what is no text of none to 200 of the letters."""
    if not isinstance(text, str):
        raise NoText("this is no text")
    if len(text) > MOST_SIGNS:
        raise NoText("a text has at most 200 signs")
    if not all(sign in letters for sign in text):
        raise NoText("a text has only signs that are letters")


def need_pattern(letters, pattern):
    """Refuse what is no pattern over the letters, and one of more than 60 nodes."""
    need_letters(letters)
    if not is_pattern(letters, pattern):
        raise NoPattern("this is no pattern over the letters")
    if nodes(pattern) > MOST_NODES:
        raise TooGreat("a pattern has at most 60 nodes")


def is_pattern(letters, thing):
    """Whether any thing is a pattern over the letters, however many nodes it has."""
    waiting = [thing]
    while waiting:
        node = waiting.pop()
        if not is_node(letters, node):
            return False
        waiting.extend(parts_of(node))
    return True


def nodes(pattern):
    """How many nodes a pattern has, each counted as often as it stands."""
    count = 0
    waiting = [pattern]
    while waiting:
        count += 1
        waiting.extend(parts_of(waiting.pop()))
    return count


def is_node(letters, thing):
    """Whether a thing has one of the shapes, whatever its parts are."""
    if not isinstance(thing, tuple) or len(thing) == 0 or not isinstance(thing[0], str):
        return False
    if thing[0] in ("none", "empty"):
        return len(thing) == 1
    if len(thing) != 2:
        return False
    if thing[0] == "sign":
        return is_letter(letters, thing[1])
    if thing[0] in ("row", "or", "and"):
        return isinstance(thing[1], tuple) and len(thing[1]) >= 2
    return thing[0] in ("many", "not")


def is_letter(letters, thing):
    """Whether a thing is one of the letters."""
    # Without the length, "" and "ab" would count, as they stand within the letters.
    return isinstance(thing, str) and len(thing) == 1 and thing in letters


def parts_of(pattern):
    """The parts that stand straight in a pattern, in order."""
    if pattern[0] in ("row", "or", "and"):
        return pattern[1]
    if pattern[0] in ("many", "not"):
        return (pattern[1],)
    return ()
