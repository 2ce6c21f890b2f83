"""Rooms of a machine in blocks that are parted further and further (Hopcroft's way)."""


class Blocks:
    """Rooms in blocks, at first the ends and the others, and which blocks may still part others."""

    def __init__(self, ends):
        """Told for each room whether it is an end."""
        self.block_of = [0] * len(ends)
        self.members = [{room: True for room in range(len(ends))}]
        self.waiting = [0]
        self.waits = [True]
        self.part([room for room, end in enumerate(ends) if end])

    def next_rooms(self):
        """The rooms of a block that waits, which waits no longer."""
        block = self.waiting.pop()
        self.waits[block] = False
        return list(self.members[block])

    def part(self, rooms):
        """Part each block of which some rooms are among these, each of them told once, and some not."""
        found = {}
        for room in rooms:
            found.setdefault(self.block_of[room], []).append(room)
        for block, moved in found.items():
            if len(moved) < len(self.members[block]):
                self.move(block, moved)

    def move(self, block, rooms):
        """Take rooms out of a block into a new one."""
        new = len(self.members)
        self.members.append({room: True for room in rooms})
        self.waits.append(False)
        for room in rooms:
            self.members[block].pop(room)
            self.block_of[room] = new
        # A block that has had its turn needs only one more for its two pieces: the shorter one.
        if self.waits[block] or len(rooms) <= len(self.members[block]):
            self.wait(new)
        else:
            self.wait(block)

    def wait(self, block):
        """Let a block wait for its turn."""
        self.waits[block] = True
        self.waiting.append(block)
