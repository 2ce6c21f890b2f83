"""The least machine that is fitted by the same texts as another one."""

from bothreed.blocks import Blocks


def least_machine(steps, ends):
    """The least machine, its rooms numbered as they are come to from room 0 in the letters' order."""
    block_of = blocks_of(steps, ends)
    numbers = {block_of[0]: 0}
    # For each room of the least machine one of the rooms that it stands for.
    rooms = [0]
    least_steps = []
    while len(least_steps) < len(rooms):
        row = []
        leads = steps[rooms[len(least_steps)]]
        for room in leads:
            block = block_of[room]
            if block not in numbers:
                numbers[block] = len(rooms)
                rooms.append(room)
            row.append(numbers[block])
        least_steps.append(row)
    return (least_steps, [ends[room] for room in rooms])


def blocks_of(steps, ends):
    """For each room the number of its block; two rooms have the same one just if no text parts them."""
    blocks = Blocks(ends)
    arrivals = [arrivals_by(steps, at) for at in range(len(steps[0]))]
    while blocks.waiting:
        rooms = blocks.next_rooms()
        for origins in arrivals:
            blocks.part([origin for room in rooms for origin in origins[room]])
    return blocks.block_of


def arrivals_by(steps, at):
    """For each room the rooms from which one letter, told by its place, leads to it."""
    found = [[] for _ in steps]
    for room, row in enumerate(steps):
        found[row[at]].append(room)
    return found
