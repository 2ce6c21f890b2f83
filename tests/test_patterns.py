"""Letters, patterns and their nodes: bothreed.patterns."""

import copy
import unittest
from itertools import permutations

from bothreed.errors import NoLetters, NoPattern, PatternError, TooGreat
from bothreed.leaving import left
from bothreed.patterns import is_pattern, need_letters, need_pattern, nodes
from tests.meaning import (
    A, ALL, ANY, B, EMPTY, HARD, NONE, ODD_THINGS, Like, both, either, many, no, random_patterns, row, sign,
)

# Each shape with one place for a pattern.
AROUND = {
    "row first": lambda thing: row(thing, A),
    "row last": lambda thing: row(A, thing),
    "row middle": lambda thing: row(A, thing, B),
    "or first": lambda thing: either(thing, A),
    "or last": lambda thing: either(A, B, thing),
    "and first": lambda thing: both(thing, A),
    "and last": lambda thing: both(A, thing),
    "many": many,
    "not": no,
}

GOOD = [
    NONE, EMPTY, A, B, sign("c"), row(A, B), row(A, A, A), row(NONE, EMPTY), either(A, B),
    either(A, A), either(NONE, EMPTY, A), both(A, B), both(A, B, no(A)), many(A), many(EMPTY),
    no(A), no(NONE), many(many(A)), no(no(A)), row(row(A, B), either(A, both(A, B))),
]

BAD = [
    # no text to tell the shape, or an unknown one
    (), (None,), (0,), (True,), (b"none",), (("none",),), (["none"],), ("",), ("nothing",), ("None",),
    ("ROW", (A, B)), (None, A), (0, (A, B)), (b"many", A), (("many",), A), ("some", A), ("all", (A, B)),
    # too short
    ("sign",), ("row",), ("or",), ("and",), ("many",), ("not",),
    # too long
    ("none", A), ("none", ()), ("none", None), ("empty", ""), ("empty", A), ("sign", "a", "b"),
    ("sign", "a", None), ("row", A, B), ("row", (A, B), ()), ("or", A, B), ("or", (A, B), A),
    ("and", A, B), ("and", (A, B), (A, B)), ("many", A, B), ("many", A, None), ("not", A, A),
    # signs that are none of the letters
    ("sign", "d"), ("sign", "A"), ("sign", ""), ("sign", "ab"), ("sign", "abc"), ("sign", "bc"),
    ("sign", " "), ("sign", "aa"),
    # signs that are no text
    ("sign", None), ("sign", 0), ("sign", True), ("sign", ("a",)), ("sign", ["a"]), ("sign", b"a"),
    ("sign", 97), ("sign", A), ("sign", ()),
    # fewer than two parts
    ("row", ()), ("or", ()), ("and", ()), ("row", (A,)), ("or", (A,)), ("and", (A,)),
    # parts that are no tuple
    ("row", [A, B]), ("or", [A, B]), ("and", [A, B]), ("row", "ab"), ("or", "ab"), ("and", None),
    ("row", {A: 1, B: 2}), ("or", {A, B}), ("and", 2), ("row", A), ("or", B),
    # lists where tuples are asked
    ["none"], ["empty"], ["sign", "a"], ["row", (A, B)], ["many", A], ("many", ["sign", "a"]),
    ("not", ["none"]), ("row", (A, ["sign", "b"])), ("or", (["sign", "a"], B)),
    # a part that is no pattern
    ("many", None), ("many", "a"), ("many", ()), ("many", (A, B)), ("not", 1), ("not", "a"),
    ("row", ("a", "b")), ("or", (None, None)), ("and", (A, True)),
    "none", "a", "sign", "", "a*",
    # things that are equal to everything
    (Like(), "a"), (Like(), A), (Like(), (A, B)), ("sign", Like()), ("row", Like()), ("row", (A, Like())),
    ("many", Like()), ("or", ((Like(),), A)),
]


class Letters(unittest.TestCase):
    def test_one_to_four_letters_in_any_order(self):
        for word in ["a", "z", "m", "ab", "ba", "az", "xyz", "cab", "abcd", "dcba", "zqmb"]:
            self.assertIs(need_letters(word), None)
        for order in permutations("ptsu"):
            self.assertIs(need_letters("".join(order)), None)

    def test_every_letter(self):
        for letter in "abcdefghijklmnopqrstuvwxyz":
            self.assertIs(need_letters(letter), None)

    def test_none_and_five(self):
        for word in ["", "abcde", "edcba", "abcdefghijklmnopqrstuvwxyz", "a" * 1000]:
            self.assertRaises(NoLetters, need_letters, word)

    def test_a_letter_twice(self):
        for word in ["aa", "aba", "abca", "abcc", "zz", "aaaa"]:
            self.assertRaises(NoLetters, need_letters, word)

    def test_other_signs(self):
        for word in ["A", "aB", "1", "a1", " ", "a ", " a", "a\n", "`", "{", "a-b", "*", "\u00e4", "a\u00df",
                     "\u0430", "\uff41", "\x00", "a\x00", "()", "_"]:
            self.assertRaises(NoLetters, need_letters, word)

    def test_things_of_every_other_kind(self):
        for thing in ODD_THINGS:
            self.assertRaises(NoLetters, need_letters, thing)


class Shapes(unittest.TestCase):
    def test_each_shape_is_a_pattern(self):
        for pattern in GOOD:
            self.assertIs(is_pattern("abc", pattern), True, pattern)

    def test_each_shape_within_every_other(self):
        for pattern in GOOD:
            for name, around in AROUND.items():
                self.assertIs(is_pattern("abc", around(pattern)), True, (name, pattern))
                for other in AROUND.values():
                    self.assertIs(is_pattern("abc", other(around(pattern))), True)

    def test_what_is_no_pattern(self):
        for thing in BAD + ODD_THINGS:
            self.assertIs(is_pattern("abc", thing), False, thing)

    def test_what_is_no_pattern_within_every_shape(self):
        for thing in BAD + ODD_THINGS:
            for name, around in AROUND.items():
                self.assertIs(is_pattern("abc", around(thing)), False, (name, thing))
                for other in AROUND.values():
                    self.assertIs(is_pattern("abc", other(around(thing))), False, (name, thing))

    def test_the_signs_are_those_of_the_letters(self):
        self.assertIs(is_pattern("a", A), True)
        self.assertIs(is_pattern("a", B), False)
        self.assertIs(is_pattern("ba", row(A, B)), True)
        self.assertIs(is_pattern("bd", row(A, B)), False)
        self.assertIs(is_pattern("bd", no(row(B, sign("d")))), True)
        self.assertIs(is_pattern("zyxw", sign("zy")), False)

    def test_however_many_nodes(self):
        wide = either(*[A] * 20000)
        self.assertIs(is_pattern("ab", wide), True)
        self.assertIs(is_pattern("ab", either(*[A] * 20000, None)), False)
        self.assertIs(is_pattern("ab", row(A, *[B] * 61)), True)
        self.assertIs(is_pattern("ab", row(*[B] * 61, sign("c"))), False)

    def test_nested_deep(self):
        good, bad, even, odd = A, sign("d"), A, None
        for _ in range(95):
            good, bad = many(good), no(bad)
        for _ in range(45):
            even, odd = row(B, even), row(B, odd)
        self.assertIs(is_pattern("ab", good), True)
        self.assertIs(is_pattern("ab", bad), False)
        self.assertIs(is_pattern("ab", even), True)
        self.assertIs(is_pattern("ab", odd), False)
        self.assertEqual((nodes(good), nodes(even)), (96, 91))


class Nodes(unittest.TestCase):
    def test_each_shape(self):
        for pattern in [NONE, EMPTY, A]:
            self.assertEqual(nodes(pattern), 1)
        self.assertEqual(nodes(many(A)), 2)
        self.assertEqual(nodes(no(NONE)), 2)
        for shape in (row, either, both):
            self.assertEqual(nodes(shape(A, B)), 3)
            self.assertEqual(nodes(shape(A, B, EMPTY, NONE)), 5)

    def test_shapes_within_one_another(self):
        self.assertEqual(nodes(row(many(A), no(either(A, B, EMPTY)), both(A, many(no(B))))), 13)
        for pattern in GOOD:
            for name, around in AROUND.items():
                others = nodes(around(A)) - 1
                self.assertEqual(nodes(around(pattern)), nodes(pattern) + others, name)

    def test_the_same_part_counts_as_often_as_it_stands(self):
        self.assertEqual(nodes(row(A, A, A)), 4)
        part = row(A, B)
        self.assertEqual(nodes(either(part, part)), 7)
        for size in range(2, 9):
            part = either(part, part)
            self.assertEqual(nodes(part), 2 ** (size + 1) - 1)

    def test_it_is_a_whole_number(self):
        self.assertIs(type(nodes(A)), int)


class NeedPattern(unittest.TestCase):
    def test_patterns_pass(self):
        for pattern in GOOD:
            self.assertIs(need_pattern("abc", pattern), None)
        for pattern in HARD.values():
            self.assertIs(need_pattern("ba", pattern), None)

    def test_sixty_nodes_pass_and_sixty_one_do_not(self):
        self.assertIs(need_pattern("a", row(*[A] * 59)), None)
        self.assertRaises(TooGreat, need_pattern, "a", row(*[A] * 60))
        self.assertIs(need_pattern("a", either(no(A), *[A] * 57)), None)
        self.assertRaises(TooGreat, need_pattern, "a", either(no(A), *[A] * 58))
        chain = A
        for _ in range(59):
            chain = no(chain)
        self.assertIs(need_pattern("a", chain), None)
        self.assertRaises(TooGreat, need_pattern, "a", no(chain))
        self.assertRaises(TooGreat, need_pattern, "a", many(chain))

    def test_the_same_part_counts_as_often_as_it_stands(self):
        part = A
        for _ in range(4):
            part = row(part, part)
        self.assertEqual(nodes(part), 31)
        self.assertIs(need_pattern("a", part), None)
        self.assertRaises(TooGreat, need_pattern, "a", row(part, part))
        part = row(*[A] * 28)
        self.assertEqual(nodes(both(part, part)), 59)
        self.assertIs(need_pattern("a", no(both(part, part))), None)
        self.assertRaises(TooGreat, need_pattern, "a", no(no(both(part, part))))

    def test_no_letters_come_first(self):
        great = row(*[A] * 60)
        for letters in ["", "aa", "abcde", "A", "a1"] + ODD_THINGS:
            for pattern in [A, great, None, "a", ("sign", "z")]:
                self.assertRaises(NoLetters, need_pattern, letters, pattern)

    def test_no_pattern_comes_before_too_great(self):
        for thing in BAD + ODD_THINGS:
            self.assertRaises(NoPattern, need_pattern, "abc", thing)
        self.assertRaises(NoPattern, need_pattern, "a", row(*[A] * 60, B))
        self.assertRaises(NoPattern, need_pattern, "ab", row(None, *[A] * 100))
        self.assertRaises(NoPattern, need_pattern, "ab", no(either(*[A] * 100, ["sign", "a"])))
        self.assertRaises(TooGreat, need_pattern, "ab", row(*[A] * 60, B))

    def test_what_left_tells_is_a_pattern_of_any_number_of_nodes(self):
        pattern = many(row(A, *[either(EMPTY, A, B)] * 13))
        self.assertIs(need_pattern("ab", pattern), None)
        for letter in "aba":
            pattern = left(pattern, letter)
        self.assertGreater(nodes(pattern), 60)
        self.assertIs(is_pattern("ab", pattern), True)
        self.assertRaises(TooGreat, need_pattern, "ab", pattern)

    def test_each_refusal_is_a_pattern_error(self):
        for letters, pattern in [("", A), ("a", B), ("a", row(*[A] * 60))]:
            self.assertRaises(PatternError, need_pattern, letters, pattern)


class NothingChanges(unittest.TestCase):
    def test_what_is_handed_in_stays_as_it_was(self):
        rows = [["row", [A, B]], {"a": [1]}, [A, [ANY, [ALL]]], ("row", [A, B]), ("many", [A])]
        for thing in rows + random_patterns(11, 50, "ab", 2, 20):
            before = copy.deepcopy(thing)
            first = is_pattern("ab", thing)
            self.assertIs(is_pattern("ab", thing), first)
            try:
                need_pattern("ab", thing)
            except PatternError:
                pass
            try:
                need_letters(thing)
            except PatternError:
                pass
            self.assertEqual(thing, before)


if __name__ == "__main__":
    unittest.main()
