"""Machines built another way, part by part and by plain steps, to hold the answers of the program against."""

from itertools import product

from tests.meaning import texts


def explored(letters, start, step, is_end):
    """The least machine of what is led to from a start."""
    numbers, rooms, steps = {start: 0}, [start], []
    for room in rooms:
        row = []
        for at in range(len(letters)):
            behind = step(room, at)
            if behind not in numbers:
                numbers[behind] = len(rooms)
                rooms.append(behind)
            row.append(numbers[behind])
        steps.append(row)
    return numbered(*merged(steps, [is_end(room) for room in rooms]))


def merged(steps, ends):
    """Rooms that nothing parts made one: parted by ends, then by where they lead, until nothing changes."""
    groups = [int(end) for end in ends]
    while True:
        kinds = {}
        parted = []
        for room, row in enumerate(steps):
            kind = (groups[room], *[groups[behind] for behind in row])
            parted.append(kinds.setdefault(kind, len(kinds)))
        if len(set(parted)) == len(set(groups)):
            break
        groups = parted
    standing = {}
    for room, group in enumerate(parted):
        standing.setdefault(group, room)
    return [[parted[behind] for behind in steps[room]] for room in standing.values()], \
        [ends[room] for room in standing.values()]


def numbered(steps, ends):
    """Rooms numbered as they are come to from room 0."""
    order = [0]
    for room in order:
        order.extend(behind for behind in dict.fromkeys(steps[room]) if behind not in order)
    return [[order.index(behind) for behind in steps[room]] for room in order], [ends[room] for room in order]


def plain_machine(letters, pattern):
    """The least machine of a pattern, from those of its parts."""
    kind = pattern[0]
    if kind == "none":
        return [[0] * len(letters)], [False]
    if kind == "empty":
        return explored(letters, 0, lambda room, at: 1, lambda room: room == 0)
    if kind == "sign":
        return explored(letters, 0, lambda room, at: 1 if room == 0 and letters[at] == pattern[1] else 2,
                        lambda room: room == 1)
    if kind == "many":
        return many_machine(letters, plain_machine(letters, pattern[1]))
    if kind == "not":
        steps, ends = plain_machine(letters, pattern[1])
        return steps, [not end for end in ends]
    machine = plain_machine(letters, pattern[1][0])
    for part in pattern[1][1:]:
        machine = pair_machine(letters, kind, machine, plain_machine(letters, part))
    return machine


def pair_machine(letters, kind, one, two):
    if kind == "row":
        return row_machine(letters, one, two)
    choice = any if kind == "or" else all
    return explored(
        letters, (0, 0), lambda rooms, at: (one[0][rooms[0]][at], two[0][rooms[1]][at]),
        lambda rooms: choice([one[1][rooms[0]], two[1][rooms[1]]]),
    )


def row_machine(letters, one, two):
    def place(room, others):
        return (room, frozenset(others | {0}) if one[1][room] else frozenset(others))

    def step(here, at):
        return place(one[0][here[0]][at], {two[0][room][at] for room in here[1]})

    return explored(letters, place(0, set()), step, lambda here: any(two[1][room] for room in here[1]))


def many_machine(letters, machine):
    steps, ends = machine

    def step(rooms, at):
        behind = {steps[room][at] for room in rooms if room != "start"}
        if "start" in rooms:
            behind.add(steps[0][at])
        if any(ends[room] for room in behind):
            behind.add("start")
        return frozenset(behind)

    return explored(letters, frozenset(["start"]), step, lambda rooms: "start" in rooms)


def room_behind(letters, machine, room, text):
    for sign in text:
        room = machine[0][room][letters.index(sign)]
    return room


def first_parting(letters, machine, room, other):
    """By trying all texts, the shortest first, in the letters' order."""
    for text in texts(letters, len(machine[0])):
        one, two = room_behind(letters, machine, room, text), room_behind(letters, machine, other, text)
        if machine[1][one] != machine[1][two]:
            return text
    return None


def first_difference(letters, one, two):
    """The first of the shortest texts that fit just one of two machines, or None."""
    trail, waiting = {(0, 0): ""}, [(0, 0)]
    for pair in waiting:
        if one[1][pair[0]] != two[1][pair[1]]:
            return trail[pair]
        for at, sign in enumerate(letters):
            behind = (one[0][pair[0]][at], two[0][pair[1]][at])
            if behind not in trail:
                trail[behind] = trail[pair] + sign
                waiting.append(behind)
    return None


def random_machine(chance, letters, many):
    """A machine whose rooms may never be come to, or not be parted."""
    steps = [[chance.randrange(many) for _ in letters] for _ in range(many)]
    odds = chance.choice([0, 0.2, 0.5, 1])
    return steps, [chance.random() < odds for _ in range(many)]


def all_machines(letters, many):
    """Each machine over the letters with so many rooms."""
    for leads in product(range(many), repeat=many * len(letters)):
        width = len(letters)
        steps = [list(leads[room * width:room * width + width]) for room in range(many)]
        for ends in product([False, True], repeat=many):
            yield steps, list(ends)
