"""What is left of a pattern behind a sign, and which texts fit: bothreed.leaving."""

import random
import unittest

from bothreed.errors import NoLetters, NoPattern, NoText, TooGreat
from bothreed.leaving import empty, fits, left
from bothreed.patterns import is_pattern, nodes
from tests.meaning import (
    A, ALL, ANY, B, EMPTY, EVERY, HARD, NONE, ODD_THINGS, both, either, has, many, means, no,
    random_patterns, row, sign, texts,
)

MOST_LEAVINGS = 500


def left_along(pattern, text):
    for letter in text:
        pattern = left(pattern, letter)
    return pattern


def leavings(letters, pattern):
    """All that comes from a pattern by signs again and again, itself included."""
    found = {pattern: True}
    waiting = [pattern]
    while waiting:
        here = waiting.pop()
        for letter in letters:
            behind = left(here, letter)
            if behind not in found:
                found[behind] = True
                waiting.append(behind)
                if len(found) > MOST_LEAVINGS:
                    raise AssertionError(f"there is no end to {pattern}")
    return list(found)


class Empty(unittest.TestCase):
    def test_each_shape(self):
        self.assertIs(empty(NONE), False)
        self.assertIs(empty(EMPTY), True)
        self.assertIs(empty(A), False)
        self.assertIs(empty(many(A)), True)
        self.assertIs(empty(many(NONE)), True)
        self.assertIs(empty(no(A)), True)
        self.assertIs(empty(no(EMPTY)), False)
        self.assertIs(empty(no(many(A))), False)

    def test_rows_ors_and_ands(self):
        for parts in [(A, B), (A, EMPTY), (EMPTY, A), (EMPTY, EMPTY), (EMPTY, EMPTY, B), (A, B, EMPTY)]:
            takes = [part == EMPTY for part in parts]
            self.assertIs(empty(("row", parts)), all(takes))
            self.assertIs(empty(("and", parts)), all(takes))
            self.assertIs(empty(("or", parts)), any(takes))

    def test_shapes_within_one_another(self):
        self.assertIs(empty(row(many(A), no(B), either(A, EMPTY))), True)
        self.assertIs(empty(row(many(A), no(EMPTY), either(A, EMPTY))), False)
        self.assertIs(empty(both(many(A), no(row(A, EMPTY)))), True)
        for pattern in list(HARD.values()) + random_patterns(1, 1500, "ab", 1, 20):
            self.assertIs(empty(pattern), means(pattern, ""), pattern)


class Left(unittest.TestCase):
    def check(self, letters, pattern, longest):
        """Each text fits what is left just if it does behind the signs so far."""
        asked = {"": pattern}
        for text in texts(letters, longest):
            if text:
                asked[text] = left(asked[text[:-1]], text[-1])
            here = asked[text]
            self.assertIs(empty(here), means(pattern, text), (pattern, text))

    def test_each_shape_behind_one_sign(self):
        for pattern, letter, rest in [
            (NONE, "a", []), (EMPTY, "a", []), (A, "a", [""]), (A, "b", []), (row(A, B), "a", ["b"]),
            (row(A, B), "b", []), (either(A, row(A, B)), "a", ["", "b"]), (both(A, row(A, B)), "a", []),
            (both(row(A, ANY), row(ANY, B)), "a", ["b"]), (many(row(A, B)), "a", ["b", "bab"]),
            (row(EMPTY, A), "a", [""]), (row(either(EMPTY, A), A), "a", ["", "a"]),
            (no(ANY), "a", ["a", "b", "aa", "ab", "ba", "bb"]),
        ]:
            behind = left(pattern, letter)
            if rest != []:
                shorter = [text for text in texts("ab", max(2, len(rest[-1]))) if means(behind, text)]
                self.assertEqual(shorter, rest, (pattern, letter))
            else:
                self.assertFalse(any(means(behind, text) for text in texts("ab", 4)))

    def test_hard_patterns_along_all_short_texts(self):
        for pattern in HARD.values():
            self.check("ab", pattern, 7)

    def test_random_patterns_along_all_short_texts(self):
        for pattern in random_patterns(2, 600, "ab", 1, 12):
            self.check("ab", pattern, 5)
        for pattern in random_patterns(3, 150, "ab", 12, 40):
            self.check("ab", pattern, 6)
        for pattern in random_patterns(4, 200, "dbac", 3, 14):
            self.check("dbac", pattern, 3)
        for pattern in random_patterns(5, 150, "z", 3, 14):
            self.check("z", pattern, 12)

    def test_what_is_left_means_the_rest_of_the_texts(self):
        for pattern in list(HARD.values()) + random_patterns(6, 200, "ab", 2, 15):
            for letter in "ab":
                behind = left(pattern, letter)
                for text in texts("ab", 5):
                    self.assertIs(means(behind, text), means(pattern, letter + text), (pattern, letter, text))

    def test_a_letter_that_the_pattern_does_not_name(self):
        for pattern in [A, many(A), row(many(A), B), no(A), both(no(A), no(B)), EVERY, no(EVERY), no(has(A))]:
            self.check("cab", pattern, 5)

    def test_the_answer_is_a_pattern_over_the_letters(self):
        for pattern in list(HARD.values()) + random_patterns(7, 400, "ab", 1, 20):
            for letter in "ab":
                self.assertIs(is_pattern("ab", left(pattern, letter)), True)
        self.assertIs(is_pattern("a", left(many(A), "a")), True)

    def test_asked_again_it_is_the_same(self):
        for pattern in list(HARD.values()) + random_patterns(8, 400, "ab", 1, 20):
            text = repr(pattern)
            for letter in "ab":
                first = left(pattern, letter)
                left(left(pattern, "b"), "a")
                self.assertEqual(left(pattern, letter), first)
                self.assertEqual(left(eval(text), letter), first)
            self.assertEqual(repr(pattern), text)

    def test_finitely_many_come_from_hard_patterns(self):
        for name, pattern in HARD.items():
            self.assertLessEqual(len(leavings("ab", pattern)), 60, name)

    def test_finitely_many_come_from_random_patterns(self):
        for pattern in random_patterns(9, 800, "ab", 1, 20) + random_patterns(10, 60, "ab", 30, 60):
            leavings("ab", pattern)
        for pattern in random_patterns(11, 200, "cadb", 3, 20):
            leavings("cadb", pattern)

    def test_parts_that_are_alike_are_told_once_in_a_fixed_order(self):
        for one, other in [
            (either(row(A, A), row(A, B)), either(row(A, B), row(A, A), row(A, B))),
            (both(row(A, EVERY), row(EVERY, B)), both(row(EVERY, B), row(A, EVERY), row(EVERY, B))),
            (either(row(A, A), either(row(A, B), A)), either(either(row(A, A), row(A, B)), A)),
            (row(row(A, B), A), row(A, row(B, A))),
            (many(A), many(many(many(A)))),
            (no(no(row(A, B))), row(A, B)),
        ]:
            for letter in "ab":
                self.assertEqual(left(one, letter), left(other, letter), (one, other))

    def test_however_many_nodes_left_tells(self):
        pattern = many(row(A, *[either(EMPTY, A, B)] * 13))
        for letter in "abaabbabaaab":
            pattern = left(pattern, letter)
            self.assertGreater(nodes(pattern), 60)
            self.assertIs(empty(pattern), True)
        self.assertEqual(left_along(pattern, "b" * 14), NONE)

    def test_along_a_text_of_200_signs(self):
        chance = random.Random(12)
        for pattern in list(HARD.values()) + random_patterns(13, 30, "ab", 30, 58):
            text = "".join(chance.choice("ab") for _ in range(200))
            behind = pattern
            for at, letter in enumerate(text, start=1):
                behind = left(behind, letter)
                if at % 40 == 0 and nodes(pattern) <= 60:
                    self.assertIs(empty(behind), fits("ab", pattern, text[:at]), pattern)

    def test_nested_deep(self):
        pattern = row(A, B)
        for depth in range(28):
            pattern = many(no(pattern))
        self.check("ab", pattern, 5)
        self.assertLess(len(leavings("ab", pattern)), 20)
        pattern = row(A, B)
        for depth in range(14):
            pattern = row(many(no(pattern)), ANY if depth % 3 == 0 else B)
        self.check("ab", pattern, 5)


class Fits(unittest.TestCase):
    def test_each_shape(self):
        for pattern, fitting in [
            (NONE, []), (EMPTY, [""]), (A, ["a"]), (row(A, B), ["ab"]), (row(A, EMPTY, B), ["ab"]),
            (either(A, B), ["a", "b"]), (either(EMPTY, row(B, B)), ["", "bb"]), (both(ANY, no(A)), ["b"]),
            (both(A, B), []), (many(A), ["", "a", "aa", "aaa"]), (many(row(A, B)), ["", "ab"]),
            (many(EMPTY), [""]), (many(NONE), [""]), (row(many(A), many(A)), ["", "a", "aa", "aaa"]),
            (no(many(ANY)), []), (no(no(A)), ["a"]), (row(A, NONE), []), (both(many(A), many(B)), [""]),
        ]:
            told = [text for text in texts("ab", 3) if fits("ab", pattern, text)]
            self.assertEqual(told, fitting, pattern)

    def test_a_not_is_over_the_letters(self):
        self.assertEqual([text for text in texts("ba", 2) if fits("ba", no(A), text)],
                         ["", "b", "bb", "ba", "ab", "aa"])
        self.assertIs(fits("abc", no(ANY), "c"), True)
        self.assertIs(fits("abc", ALL, "cab"), True)

    def test_the_meaning_of_the_shapes(self):
        for pattern in list(HARD.values()) + random_patterns(14, 800, "ab", 1, 15):
            for text in texts("ab", 6):
                self.assertIs(fits("ab", pattern, text), means(pattern, text), (pattern, text))
        for pattern in random_patterns(15, 200, "cdba", 3, 20):
            for text in texts("cdba", 3):
                self.assertIs(fits("cdba", pattern, text), means(pattern, text), (pattern, text))

    def test_a_text_of_200_signs(self):
        self.assertIs(fits("ab", many(row(A, B)), "ab" * 100), True)
        self.assertIs(fits("ab", many(row(A, B)), "ab" * 99 + "ba"), False)
        self.assertIs(fits("ab", many(row(A, A, A)), "a" * 200), False)
        self.assertIs(fits("ab", no(many(row(A, A, A))), "a" * 200), True)
        self.assertIs(fits("ab", row(EVERY, A, *[ANY] * 15), "b" * 184 + "a" + "b" * 15), True)
        self.assertIs(fits("ab", row(EVERY, A, *[ANY] * 15), "a" * 184 + "b" + "a" * 15), False)
        self.assertIs(fits("ab", row(*[EVERY] * 10, B, EVERY), "a" * 199 + "b"), True)
        self.assertIs(fits("ab", many(no(many(no(row(A, EVERY))))), "ab" * 100), True)

    def test_a_text_of_201_signs_is_refused(self):
        self.assertRaises(NoText, fits, "ab", EVERY, "a" * 201)
        self.assertRaises(NoText, fits, "ab", NONE, "ab" * 500)

    def test_signs_that_are_no_letters_are_refused(self):
        for text in ["c", "ac", "ca", "A", "a b", " ", "a\n", "1", "*", "a" * 199 + "c", "\u00e4"]:
            self.assertRaises(NoText, fits, "ab", EVERY, text)
        self.assertRaises(NoText, fits, "b", no(B), "a")

    def test_things_that_are_no_text_are_refused(self):
        for thing in ODD_THINGS:
            self.assertRaises(NoText, fits, "ab", EVERY, thing)
            self.assertRaises(NoText, fits, "ab", NONE, thing)

    def test_the_order_of_refusals(self):
        great = row(*[A] * 60)
        for letters in ["", "aa", "abcde", "Ab", None, 1, ("a", "b"), b"ab"]:
            for pattern in [A, great, None, sign("z")]:
                for text in ["", "c", None, "a" * 201]:
                    self.assertRaises(NoLetters, fits, letters, pattern, text)
        for pattern in [None, sign("c"), row(*[A] * 60, None), ["sign", "a"], "a", ("row", (A,))]:
            for text in ["", "c", None, "a" * 201]:
                self.assertRaises(NoPattern, fits, "ab", pattern, text)
        for text in ["", "c", None, "a" * 201]:
            self.assertRaises(TooGreat, fits, "ab", great, text)
        self.assertIs(fits("ab", row(*[A] * 59), "a" * 59), True)

    def test_what_is_handed_in_stays_and_the_answer_too(self):
        for pattern in random_patterns(16, 200, "ab", 2, 20):
            before = repr(pattern)
            first = [fits("ab", pattern, text) for text in texts("ab", 3)]
            self.assertEqual([fits("ab", pattern, text) for text in texts("ab", 3)], first)
            self.assertEqual(repr(pattern), before)
        thing = ["a", ["b"]]
        self.assertRaises(NoText, fits, "ab", A, thing)
        self.assertEqual(thing, ["a", ["b"]])


if __name__ == "__main__":
    unittest.main()
