"""Where the pieces of a text that fit a pattern end.

A set of places is a whole number here: place k is in it if its bit k is set. So all the places are
joined or left out at once, and what fits is found in few steps, whatever shape the pattern has.
"""


def endings(pattern, text):
    """For each place of the text the set of places where a piece from there that fits may end."""
    if pattern[0] == "none":
        return [0] * (len(text) + 1)
    if pattern[0] == "empty":
        return [1 << place for place in range(len(text) + 1)]
    if pattern[0] == "sign":
        return sign_endings(pattern[1], text)
    if pattern[0] == "many":
        return many_endings(endings(pattern[1], text))
    if pattern[0] == "not":
        return not_endings(endings(pattern[1], text))
    found = endings(pattern[1][0], text)
    for part in pattern[1][1:]:
        found = merged(pattern[0], found, endings(part, text))
    return found


def sign_endings(sign, text):
    """Where a piece that is just the sign ends."""
    found = [2 << place if here == sign else 0 for place, here in enumerate(text)]
    found.append(0)
    return found


def not_endings(ends):
    """Where a piece ends that does not fit, told where one ends that fits."""
    beyond = 1 << len(ends)
    return [(beyond - (1 << place)) ^ here for place, here in enumerate(ends)]


def many_endings(ends):
    """Where none or more pieces side by side end, told where one piece ends."""
    found = [0] * len(ends)
    for place in reversed(range(len(ends))):
        start = 1 << place
        # A piece without signs leads nowhere new, and behind it nothing is told yet.
        found[place] = start | ends_behind(ends[place] & ~start, found)
    return found


def merged(kind, ends, more):
    """Where a piece ends that fits a row, an or or an and of two, told where one ends for each."""
    if kind == "row":
        return [ends_behind(here, more) for here in ends]
    if kind == "or":
        return [here | there for here, there in zip(ends, more)]
    return [here & there for here, there in zip(ends, more)]


def ends_behind(places, ends):
    """All the places where a piece from one of these places ends."""
    found = 0
    while places:
        place = places.bit_length() - 1
        found = found | ends[place]
        places = places ^ (1 << place)
    return found
