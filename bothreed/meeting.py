"""Rooms that are joined, two by two."""


class Meeting:
    """Rooms of a machine, each at first by itself, then in groups that grow together."""

    def __init__(self, many):
        """So many rooms, each by itself."""
        # For each room another one of its group, or itself for just one room of each group.
        self.ahead = list(range(many))

    def first_of(self, room):
        """The room that stands for the group of a room."""
        while self.ahead[room] != room:
            # The way is made shorter as it is gone, else it could grow as long as the machine.
            self.ahead[room] = self.ahead[self.ahead[room]]
            room = self.ahead[room]
        return room

    def join_rooms(self, room, other):
        """Join the groups of two rooms; whether they were two."""
        one = self.first_of(room)
        two = self.first_of(other)
        self.ahead[one] = two
        return one != two
