"""What is read so far of a written pattern within one pair of brackets."""

from bothreed.errors import NoText


class Level:
    """The branches, halves and items within one pair of brackets, or in the whole text."""

    def __init__(self):
        """A level of which nothing is read yet."""
        self.branches = []
        self.halves = []
        # Each item is kept as its number of ! and its atom, as a * still to come goes to the atom alone.
        self.row = []
        self.nots = 0

    def take_not(self):
        """A ! ahead of the next item."""
        self.nots += 1

    def take_atom(self, atom):
        """The atom of an item."""
        self.row.append((self.nots, atom))
        self.nots = 0

    def take_star(self):
        """A * behind the last atom."""
        self.need_item()
        nots, atom = self.row.pop()
        self.row.append((nots, ("many", atom)))

    def end_half(self):
        """The items so far are a half."""
        self.need_item()
        self.halves.append(together("row", [denied(nots, atom) for nots, atom in self.row]))
        self.row = []

    def end_branch(self):
        """The halves so far are a branch."""
        self.end_half()
        self.branches.append(together("and", self.halves))
        self.halves = []

    def told(self):
        """The pattern that is written here, where nothing more follows."""
        self.end_branch()
        return together("or", self.branches)

    def need_item(self):
        """Refuse where no whole item stands straight ahead."""
        if self.nots > 0 or not self.row:
            raise NoText("a mark, a star or an end has no item ahead of it")


def denied(nots, pattern):
    """The not of the not of .. a pattern, so many times."""
    for _ in range(nots):
        pattern = ("not", pattern)
    return pattern


def together(kind, parts):
    """A pattern of the parts; one alone is itself."""
    if len(parts) == 1:
        return parts[0]
    return (kind, tuple(parts))
