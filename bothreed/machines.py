"""Machines: the least one of a pattern, where a text leads, and which text parts two rooms."""

from bothreed.errors import NoRoom
from bothreed.leaving import empty
from bothreed.leavings import Leavings
from bothreed.least import least_machine
from bothreed.meeting import Meeting
from bothreed.patterns import need_letters, need_pattern, need_text
from bothreed.trail import text_along


def machine_of(letters, pattern):
    """The least machine of a pattern."""
    need_pattern(letters, pattern)
    leavings = Leavings(letters)
    leavings.number_of(pattern)
    steps = []
    while len(steps) < len(leavings.patterns):
        steps.append(leavings.behind(len(steps)))
    return least_machine(steps, [empty(rest) for rest in leavings.patterns])


def room_of(letters, machine, room, text):
    """The room to which a text leads from a room."""
    need_letters(letters)
    need_room(machine, room)
    need_text(letters, text)
    steps = machine[0]
    for sign in text:
        room = steps[room][letters.index(sign)]
    return room


def parting(letters, machine, room, other):
    """The first of the shortest texts that lead from just one of two rooms to an end, or None."""
    need_letters(letters)
    need_room(machine, room)
    need_room(machine, other)
    steps, ends = machine
    meeting = Meeting(len(steps))
    meeting.join_rooms(room, other)
    pairs = [(room, other)]
    trail = [(0, "")]
    at = 0
    while at < len(pairs):
        one, two = pairs[at]
        if ends[one] != ends[two]:
            return text_along(trail, at)
        for sign, here, there in zip(letters, steps[one], steps[two]):
            # What parts two rooms that are joined also parts two of those that joined them, and sooner.
            if meeting.join_rooms(here, there):
                pairs.append((here, there))
                trail.append((at, sign))
        at += 1
    return None


def need_room(machine, thing):
    """Refuse what is no room of the machine."""
    if not isinstance(thing, int) or isinstance(thing, bool):
        raise NoRoom("a room is a whole number")
    if not 0 <= thing < len(machine[0]):
        raise NoRoom("the machine has no such room")
