"""The least machine of another one: bothreed.least and bothreed.blocks."""

import random
import unittest

from bothreed.least import blocks_of, least_machine
from tests.plain import all_machines, merged, numbered, random_machine


def same_groups(one, other):
    """Whether two lists of numbers put the same places together."""
    return len(set(one)) == len(set(other)) == len(set(zip(one, other)))


class Least(unittest.TestCase):
    def check(self, letters, machine):
        # Without the rooms that are never come to, which no pattern's machine has.
        steps, ends = numbered(*machine)
        before = repr((steps, ends))
        self.assertEqual(least_machine(steps, ends), tuple(numbered(*merged(steps, ends))), machine)
        self.assertEqual(repr((steps, ends)), before)

    def test_all_machines_of_few_rooms(self):
        for letters, number in [("a", 1), ("a", 2), ("a", 3), ("ab", 1), ("ab", 2), ("abc", 2)]:
            for machine in all_machines(letters, number):
                self.check(letters, machine)

    def test_random_machines(self):
        chance = random.Random(71)
        for letters, number, rounds in [("a", 12, 300), ("ab", 4, 600), ("ab", 9, 400), ("abcd", 6, 200), ("ab", 40, 60)]:
            for _ in range(rounds):
                self.check(letters, random_machine(chance, letters, number))

    def test_machines_with_many_rooms_that_are_not_parted(self):
        chance = random.Random(72)
        for _ in range(600):
            few = random_machine(chance, "ab", chance.randint(2, 7))
            self.check("ab", copied(chance, few, chance.randint(10, 30)))

    def test_blocks_of_all_rooms_come_to_or_not(self):
        chance = random.Random(73)
        for _ in range(600):
            steps, ends = random_machine(chance, "ab", chance.randint(2, 12))
            self.assertTrue(same_groups(blocks_of(steps, ends), plain_groups(steps, ends)), (steps, ends))
            steps, ends = copied(chance, (steps, ends), 25)
            self.assertTrue(same_groups(blocks_of(steps, ends), plain_groups(steps, ends)), (steps, ends))

    def test_a_long_ring(self):
        number = 20000
        steps = [[(room + 1) % number] for room in range(number)]
        ends = [room % 5000 == 0 for room in range(number)]
        least_steps, least_ends = least_machine(steps, ends)
        self.assertEqual(least_steps, [[room + 1] for room in range(4999)] + [[0]])
        self.assertEqual(least_ends, [True] + [False] * 4999)


def copied(chance, machine, number):
    """A machine of so many rooms, each of which does as one of the machine that is handed in."""
    steps, ends = machine
    stands_for = list(range(len(steps))) + [chance.randrange(len(steps)) for _ in range(number)]
    places = {}
    for room, origin in enumerate(stands_for):
        places.setdefault(origin, []).append(room)
    return [[chance.choice(places[behind]) for behind in steps[origin]] for origin in stands_for], \
        [ends[origin] for origin in stands_for]


def plain_groups(steps, ends):
    """For each room a number that two rooms share if no text as long as the rooms are many parts them."""
    groups = [int(end) for end in ends]
    for _ in steps:
        kinds = {}
        groups = [
            kinds.setdefault((groups[room], *[groups[behind] for behind in row]), len(kinds))
            for room, row in enumerate(steps)
        ]
    return groups


if __name__ == "__main__":
    unittest.main()
