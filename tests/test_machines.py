"""The least machine of a pattern, where a text leads, and what parts two rooms: bothreed.machines."""

import copy
import random
import unittest
from itertools import combinations

from bothreed.errors import NoLetters, NoPattern, NoRoom, NoText, PatternError, TooGreat
from bothreed.leaving import fits
from bothreed.machines import machine_of, parting, room_of
from bothreed.patterns import nodes
from tests.meaning import (
    A, ALL, ANY, B, EMPTY, EVERY, HARD, NONE, ODD_THINGS, both, either, has, many, means, no,
    random_patterns, row, sign, texts, times,
)
from tests.plain import all_machines, first_parting, plain_machine, random_machine, room_behind
from tests.test_patterns import BAD

BAD_LETTERS = ["", "aa", "abcde", "A", "a1", "a "] + ODD_THINGS

# Over a and b: room 0 and 1 turn about by a, b keeps them; 2 and 3 are never come to from them; 4 and 5 are
# parted by nothing, and no text leads from 6 to an end.
ROOMS = ([[1, 0], [0, 1], [3, 0], [3, 1], [5, 4], [4, 5], [6, 6]], [True, False, False, False, True, True, False])

# A single room that is an end, and one that is none.
ALONE = ([[0, 0]], [True])
DEAD = ([[0]], [False])


def odd_rooms(machine):
    """Things that are no room of the machine."""
    number = len(machine[0])
    numbers = [-1, -2, number, number + 1, -number, 10 ** 30, -10 ** 30]
    things = ["", "0", "a", [0], (0,), {0: 0}, 0.0, 1.0, b"0", True, False, None]
    return numbers + things + [thing for thing in ODD_THINGS if type(thing) is not int]


def refusal(call, *things):
    """The class of what is raised, or None."""
    try:
        call(*things)
    except PatternError as error:
        return type(error)
    return None


class RoomOf(unittest.TestCase):
    def test_along_a_text(self):
        for start, text, end in [
            (0, "a", 1), (0, "b", 0), (1, "a", 0), (0, "ab", 1), (0, "abab", 0), (0, "baab", 0), (2, "a", 3),
            (2, "b", 0), (2, "aaa", 3), (3, "ba", 0), (4, "a", 5), (5, "ba", 4), (6, "abba", 6),
        ]:
            self.assertEqual(room_of("ab", ROOMS, start, text), end, (start, text))
            self.assertIs(type(room_of("ab", ROOMS, start, text)), int)

    def test_the_empty_text_leads_nowhere_else(self):
        for room in range(7):
            self.assertEqual(room_of("ab", ROOMS, room, ""), room)
            self.assertIs(type(room_of("ab", ROOMS, room, "")), int)

    def test_one_room(self):
        for text in texts("ab", 4):
            self.assertEqual(room_of("ab", ALONE, 0, text), 0)
        self.assertEqual(room_of("z", DEAD, 0, "zzz"), 0)

    def test_the_steps_stand_in_the_letters_order(self):
        machine = ([[1, 2, 3], [1, 1, 1], [2, 2, 2], [3, 3, 3]], [False] * 4)
        for letters in ["abc", "cab", "bca", "cba", "zxy"]:
            for at, letter in enumerate(letters):
                self.assertEqual(room_of(letters, machine, 0, letter), at + 1)

    def test_all_texts_on_random_machines(self):
        chance = random.Random(31)
        for letters in ["a", "ab", "ba", "dcab"]:
            for number in [1, 2, 5, 30]:
                machine = random_machine(chance, letters, number)
                for text in texts(letters, 3):
                    room = chance.randrange(number)
                    self.assertEqual(room_of(letters, machine, room, text),
                                     room_behind(letters, machine, room, text))

    def test_a_text_of_200_signs_and_one_of_201(self):
        self.assertEqual(room_of("ab", ROOMS, 0, "a" * 199 + "b"), 1)
        self.assertEqual(room_of("ab", ROOMS, 0, "a" * 200), 0)
        self.assertRaises(NoText, room_of, "ab", ROOMS, 0, "a" * 201)
        self.assertRaises(NoText, room_of, "ab", ROOMS, 0, "b" * 1000)

    def test_what_is_no_text_over_the_letters(self):
        for text in ["c", "ac", "ca", "A", "a b", " ", "a\n", "0", "a" * 199 + "c", "\u00e4"] + ODD_THINGS:
            self.assertRaises(NoText, room_of, "ab", ROOMS, 0, text)
        self.assertRaises(NoText, room_of, "b", DEAD, 0, "a")

    def test_what_is_no_room(self):
        for machine in [ROOMS, ALONE]:
            for room in odd_rooms(machine):
                self.assertRaises(NoRoom, room_of, "ab", machine, room, "")
                self.assertRaises(NoRoom, room_of, "ab", machine, room, "ab")
        self.assertEqual(room_of("ab", ROOMS, 6, ""), 6)
        self.assertRaises(NoRoom, room_of, "ab", ROOMS, 7, "")

    def test_the_order_of_refusals(self):
        for letters in BAD_LETTERS:
            for room in [0, -1, None]:
                for text in ["", "c", None]:
                    self.assertRaises(NoLetters, room_of, letters, ROOMS, room, text)
        for room in [-1, 7, None, True]:
            for text in ["", "c", None, "a" * 201]:
                self.assertRaises(NoRoom, room_of, "ab", ROOMS, room, text)

    def test_the_machine_stays_and_a_changed_one_is_meant(self):
        machine = copy.deepcopy(ROOMS)
        first = [room_of("ab", machine, room, "ab") for room in range(7)]
        self.assertEqual(machine, ROOMS)
        self.assertEqual([room_of("ab", machine, room, "ab") for room in range(7)], first)
        machine[0][0][0] = 6
        self.assertEqual(room_of("ab", machine, 0, "ab"), 6)
        machine[0].append([0, 7])
        self.assertEqual(room_of("ab", machine, 7, "bb"), 7)


class Parting(unittest.TestCase):
    def test_a_few_rooms(self):
        for room, other, text in [
            (0, 1, ""), (0, 2, ""), (1, 2, "a"), (1, 3, "a"), (2, 3, "b"), (4, 5, None), (4, 6, ""), (0, 4, "a"),
            (1, 6, "a"), (2, 6, "b"), (3, 6, "ba"), (0, 0, None), (6, 6, None),
        ]:
            self.assertEqual(parting("ab", ROOMS, room, other), text, (room, other))
            self.assertEqual(parting("ab", ROOMS, other, room), text, (other, room))

    def test_of_the_shortest_ones_the_first_in_the_letters_order(self):
        # From 0 and 1 each of a, b and c leads to an end from just one of them.
        machine = ([[2, 2, 2], [3, 3, 3], [2, 2, 2], [3, 3, 3]], [False, False, True, False])
        for letters in ["abc", "cab", "bca", "cba", "zay"]:
            self.assertEqual(parting(letters, machine, 0, 1), letters[0])
        # By the first letter nothing, by the second one and then any.
        machine = ([[4, 2], [4, 3], [5, 5], [4, 4], [4, 4], [5, 5]], [False] * 5 + [True])
        self.assertEqual(parting("ab", machine, 0, 1), "ba")
        self.assertEqual(parting("ba", machine, 0, 1), "ab")
        self.assertEqual(parting("yx", machine, 1, 0), "xy")

    def test_a_shorter_one_comes_before_one_that_begins_with_an_earlier_letter(self):
        machine = ([[2, 4], [3, 5], [4, 4], [5, 5], [4, 4], [5, 5]], [False, False, False, False, True, False])
        self.assertEqual(parting("ab", machine, 0, 1), "b")
        self.assertEqual(parting("ba", machine, 0, 1), "a")
        self.assertEqual(parting("ab", machine, 2, 3), "a")

    def test_none_where_there_is_none(self):
        for machine in [ROOMS, ALONE, ([[1, 1], [0, 0]], [False, False]), ([[1, 0], [1, 1]], [True, True])]:
            for room in range(len(machine[0])):
                self.assertIs(parting("ab", machine, room, room), None)
        self.assertIs(parting("ab", ([[1, 1], [0, 0]], [False, False]), 0, 1), None)
        self.assertIs(parting("ab", ([[1, 0], [1, 1]], [True, True]), 1, 0), None)
        self.assertIs(parting("ab", ROOMS, 4, 5), None)

    def test_all_machines_of_two_and_three_rooms(self):
        for letters, number in [("a", 2), ("a", 3), ("ba", 2)]:
            for machine in all_machines(letters, number):
                for room in range(number):
                    for other in range(number):
                        self.assertEqual(parting(letters, machine, room, other),
                                         first_parting(letters, machine, room, other))

    def test_random_machines(self):
        chance = random.Random(32)
        for letters, number, rounds in [("a", 9, 60), ("ab", 6, 150), ("ba", 6, 150), ("cab", 5, 60), ("dacb", 4, 60)]:
            for _ in range(rounds):
                machine = random_machine(chance, letters, number)
                for room, other in combinations(range(number), 2):
                    text = first_parting(letters, machine, room, other)
                    self.assertEqual(parting(letters, machine, room, other), text, (letters, machine))
                    self.assertEqual(parting(letters, machine, other, room), text, (letters, machine))

    def test_great_machines(self):
        number = 3000
        ring = ([[(room + 1) % number] for room in range(number)], [room == 0 for room in range(number)])
        self.assertEqual(parting("a", ring, 1, 2), "a" * (number - 2))
        self.assertEqual(parting("a", ring, 2, 1), "a" * (number - 2))
        dark = ([[(room * 7 + 1) % number, (room * 3 + 2) % number] for room in range(number)], [True] * number)
        self.assertIs(parting("ab", dark, 0, 1), None)

    def test_the_rooms_of_a_least_machine(self):
        for pattern in list(HARD.values()):
            machine = machine_of("ba", pattern)
            for room, other in list(combinations(range(len(machine[0])), 2))[:60]:
                text = parting("ba", machine, room, other)
                self.assertEqual(parting("ba", machine, other, room), text)
                ends = [machine[1][room_of("ba", machine, place, text)] for place in (room, other)]
                self.assertEqual(sorted(ends), [False, True])

    def test_what_is_no_room_at_either_place(self):
        for machine in [ROOMS, ALONE]:
            for room in odd_rooms(machine):
                self.assertRaises(NoRoom, parting, "ab", machine, room, 0)
                self.assertRaises(NoRoom, parting, "ab", machine, 0, room)
                self.assertRaises(NoRoom, parting, "ab", machine, room, room)

    def test_no_letters_come_first(self):
        for letters in BAD_LETTERS:
            for room, other in [(0, 1), (0, 0), (-1, 0), (0, None), (True, "a")]:
                self.assertRaises(NoLetters, parting, letters, ROOMS, room, other)

    def test_the_machine_stays_and_a_changed_one_is_meant(self):
        machine = copy.deepcopy(ROOMS)
        pairs = [(room, other) for room in range(7) for other in range(7)]
        first = [parting("ab", machine, *pair) for pair in pairs]
        self.assertEqual(machine, ROOMS)
        self.assertEqual([parting("ab", machine, *pair) for pair in pairs], first)
        machine[1][5] = False
        self.assertEqual(parting("ab", machine, 4, 5), "")
        machine[1][4] = False
        self.assertIs(parting("ab", machine, 4, 5), None)
        machine[0][4][1] = 0
        self.assertEqual(parting("ab", machine, 4, 5), "b")


class MachineOf(unittest.TestCase):
    def check_least(self, letters, pattern):
        """What point 7 says of the least machine, told of each room; the machine."""
        machine = machine_of(letters, pattern)
        self.assertIs(type(machine), tuple)
        steps, ends = machine
        self.assertIs(type(steps), list)
        self.assertIs(type(ends), list)
        self.assertEqual(len(steps), len(ends))
        met = 0
        for room, leads in enumerate(steps):
            self.assertIs(type(leads), list)
            self.assertEqual(len(leads), len(letters))
            self.assertIs(type(ends[room]), bool)
            self.assertLessEqual(room, met, "a room is never come to")
            for behind in leads:
                self.assertIs(type(behind), int)
                self.assertLessEqual(behind, met + 1, "rooms are not numbered as they are come to")
                met = max(met, behind)
        self.assertEqual(met, len(steps) - 1)
        return machine

    def test_each_shape(self):
        for letters, pattern, machine in [
            ("a", NONE, ([[0]], [False])), ("a", EMPTY, ([[1], [1]], [True, False])), ("a", ALL, ([[0]], [True])),
            ("a", A, ([[1], [2], [2]], [False, True, False])), ("abcd", NONE, ([[0, 0, 0, 0]], [False])),
            ("ab", A, ([[1, 2], [2, 2], [2, 2]], [False, True, False])),
            ("ba", A, ([[1, 2], [1, 1], [1, 1]], [False, False, True])),
            ("ab", EMPTY, ([[1, 1], [1, 1]], [True, False])),
            ("ab", row(A, B), ([[1, 2], [2, 3], [2, 2], [2, 2]], [False, False, False, True])),
            ("ab", either(A, B), ([[1, 1], [2, 2], [2, 2]], [False, True, False])),
            ("ab", both(A, B), ([[0, 0]], [False])), ("ab", both(many(A), many(B)), ([[1, 1], [1, 1]], [True, False])),
            ("ab", many(A), ([[0, 1], [1, 1]], [True, False])), ("ba", many(A), ([[1, 0], [1, 1]], [True, False])),
            ("ab", no(many(A)), ([[0, 1], [1, 1]], [False, True])),
            ("ab", many(row(A, B)), ([[1, 2], [2, 0], [2, 2]], [True, False, False])),
            ("ab", EVERY, ([[0, 0]], [True])), ("abc", EVERY, ([[0, 0, 1], [1, 1, 1]], [True, False])),
            ("ab", times(3), ([[1, 1], [2, 2], [0, 0]], [True, False, False])),
            ("ab", has(row(A, B)), ([[1, 0], [1, 2], [2, 2]], [False, False, True])),
        ]:
            self.assertEqual(machine_of(letters, pattern), machine, (letters, pattern))

    def test_the_rooms_are_numbered_in_the_letters_order(self):
        self.assertEqual(machine_of("ab", row(A, B)), ([[1, 2], [2, 3], [2, 2], [2, 2]], [False, False, False, True]))
        self.assertEqual(machine_of("ba", row(A, B)), ([[1, 2], [1, 1], [3, 1], [1, 1]], [False, False, False, True]))
        self.assertEqual(machine_of("cab", row(A, B))[0], [[1, 2, 1], [1, 1, 1], [1, 1, 3], [1, 1, 1]])

    def test_hard_patterns(self):
        for letters in ["ab", "ba"]:
            for pattern in HARD.values():
                self.assertEqual(self.check_least(letters, pattern), tuple(plain_machine(letters, pattern)), pattern)

    def test_random_patterns(self):
        for letters, seed, number, smallest, greatest in [
            ("ab", 33, 500, 1, 12), ("ba", 34, 150, 10, 30), ("dbac", 35, 150, 2, 18), ("z", 36, 100, 2, 20),
        ]:
            for pattern in random_patterns(seed, number, letters, smallest, greatest):
                self.assertEqual(self.check_least(letters, pattern), tuple(plain_machine(letters, pattern)), pattern)

    def test_a_text_leads_to_an_end_just_where_it_fits(self):
        for pattern in list(HARD.values()) + random_patterns(37, 150, "ab", 2, 14):
            machine = machine_of("ab", pattern)
            for text in texts("ab", 6):
                end = machine[1][room_of("ab", machine, 0, text)]
                self.assertIs(end, means(pattern, text), (pattern, text))
                self.assertIs(end, fits("ab", pattern, text), (pattern, text))

    def test_any_two_rooms_are_parted(self):
        for pattern in list(HARD.values()) + random_patterns(38, 100, "ab", 5, 20):
            machine = machine_of("ab", pattern)
            for room, other in combinations(range(min(12, len(machine[0]))), 2):
                self.assertIsNot(parting("ab", machine, room, other), None)

    def test_what_fits_the_same_texts_has_the_same_machine(self):
        for one, other in [
            (A, no(no(A))), (either(A, B), either(B, A, A)), (many(A), either(EMPTY, row(A, many(A)))),
            (EVERY, ALL), (both(A, B), NONE), (row(many(A), many(A)), many(A)), (many(EMPTY), EMPTY),
            (no(either(A, B)), both(no(A), no(B))), (has(row(A, A)), row(ALL, A, A, ALL)),
        ]:
            self.assertEqual(machine_of("ab", one), machine_of("ab", other))
            self.assertEqual(machine_of("ba", one), machine_of("ba", other))

    def test_the_machine_of_a_not(self):
        for pattern in list(HARD.values()) + random_patterns(39, 150, "ab", 1, 20):
            steps, ends = machine_of("ab", pattern)
            self.assertEqual(machine_of("ab", no(pattern)), (steps, [not end for end in ends]), pattern)

    def test_patterns_of_just_60_nodes(self):
        wide = row(*[A] * 59)
        self.assertEqual(nodes(wide), 60)
        steps, ends = self.check_least("a", wide)
        self.assertEqual((len(steps), ends.index(True)), (61, 59))
        deep = A
        for _ in range(59):
            deep = no(deep)
        self.assertEqual(nodes(deep), 60)
        self.assertEqual(machine_of("ab", deep), machine_of("ab", no(A)))
        steep = A
        for at in range(59):
            steep = many(steep) if at % 2 else no(steep)
        self.assertEqual(nodes(steep), 60)
        self.assertEqual(self.check_least("ab", steep), tuple(plain_machine("ab", steep)))
        for pattern in [either(*[A, B] * 29, EMPTY), both(*[EVERY] * 14, A, many(A)),
                        row(*[many(A), B] * 19, A, B), many(row(*[either(EMPTY, A)] * 18, A, B, A, B))]:
            self.assertEqual(nodes(pattern), 60, pattern)
            self.assertEqual(self.check_least("ab", pattern), tuple(plain_machine("ab", pattern)))

    def test_many_rooms(self):
        steps, ends = self.check_least("ab", row(EVERY, A, *[ANY] * 7))
        self.assertEqual((len(steps), sum(ends)), (256, 128))
        rings = both(*[many(row(*[A] * size)) for size in (2, 3, 5, 7, 11)])
        steps, ends = machine_of("a", rings)
        self.assertEqual(steps, [[room + 1] for room in range(2309)] + [[0]])
        self.assertEqual(ends, [True] + [False] * 2309)

    def test_an_answer_that_is_changed_changes_no_other(self):
        for pattern in [NONE, ALL, many(A), has(row(A, B))]:
            first = machine_of("ab", pattern)
            kept = copy.deepcopy(first)
            second = machine_of("ab", pattern)
            first[0][0][0] = 99
            first[0][-1].clear()
            first[0].append([1, 1])
            first[1][0] = None
            first[1].clear()
            self.assertEqual(second, kept)
            self.assertEqual(machine_of("ab", pattern), kept)
            second[0].clear()
            self.assertEqual(machine_of("ab", pattern), kept)

    def test_no_list_stands_twice_in_an_answer(self):
        for pattern in [NONE, EMPTY, both(many(A), many(B)), has(A)]:
            steps, ends = machine_of("ab", pattern)
            self.assertEqual(len({id(each) for each in [steps, ends, *steps]}), len(steps) + 2)

    def test_the_pattern_stays_and_the_answer_too(self):
        for pattern in random_patterns(40, 100, "ab", 2, 20):
            before = repr(pattern)
            first = machine_of("ab", pattern)
            self.assertEqual(machine_of("ab", pattern), first)
            self.assertEqual(repr(pattern), before)

    def test_the_order_of_refusals(self):
        great = row(*[A] * 60)
        for letters in BAD_LETTERS:
            for pattern in [A, great, None, sign("z")]:
                self.assertRaises(NoLetters, machine_of, letters, pattern)
        for thing in BAD + ODD_THINGS:
            self.assertRaises(NoPattern, machine_of, "abc", thing)
        for thing in [sign("c"), row(*[A] * 60, sign("c")), either(None, *[A] * 99)]:
            self.assertRaises(NoPattern, machine_of, "ab", thing)
        for pattern in [great, no(row(*[A] * 59)), either(*[NONE] * 500)]:
            self.assertRaises(TooGreat, machine_of, "ab", pattern)
        self.assertIs(refusal(machine_of, "a", row(*[A] * 59)), None)


if __name__ == "__main__":
    unittest.main()
