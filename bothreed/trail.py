"""The way back through a search that goes on by signs."""


def text_along(trail, at):
    """The text that leads to a place of the search.

    The trail tells for each place the one ahead of it and the sign behind that; place 0 is the start.
    """
    signs = []
    while at > 0:
        at, sign = trail[at]
        signs.append(sign)
    return "".join(reversed(signs))
