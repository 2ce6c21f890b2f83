"""Whether two patterns are alike, with a table or a text: bothreed.telling."""

import unittest

from bothreed.errors import NoLetters, NoPattern, TooGreat
from bothreed.leaving import empty, fits, left
from bothreed.patterns import is_pattern, nodes
from bothreed.telling import told_alike
from tests.meaning import (
    A, ALL, ANY, B, EMPTY, EVERY, HARD, NONE, ODD_THINGS, both, either, has, many, means, no,
    random_patterns, row, sign, texts, times,
)
from tests.plain import first_difference, plain_machine
from tests.test_patterns import BAD

AB = row(A, B)
BA = row(B, A)
C = sign("c")

# The same texts over a and b fit both.
ALIKE = {
    "a not of nots": (no(no(A)), A),
    "four nots": (no(no(no(no(AB)))), AB),
    "an or turned about": (either(A, B), either(B, A)),
    "an or with itself": (either(AB, AB), AB),
    "an or of ors": (either(A, either(B, AB)), either(either(AB, A), B)),
    "an or with none": (either(NONE, A), A),
    "an and turned about": (both(has(A), has(B)), both(has(B), has(A))),
    "an and with itself": (both(AB, AB, AB), AB),
    "an and with all": (both(ALL, AB), AB),
    "an and with its not": (both(has(AB), no(has(AB))), NONE),
    "an or with its not": (either(has(AB), no(has(AB))), EVERY),
    "a many as nothing or one more": (many(AB), either(EMPTY, row(AB, many(AB)))),
    "one more at the end": (many(AB), either(EMPTY, row(many(AB), AB))),
    "a many of a many": (many(many(A)), many(A)),
    "a many twice": (row(many(A), many(A)), many(A)),
    "a many by even and odd ones": (many(A), either(many(row(A, A)), row(A, many(row(A, A))))),
    "a many of nothing": (many(NONE), EMPTY),
    "a many of the empty one": (many(EMPTY), EMPTY),
    "a many of two": (many(either(A, B)), row(many(A), many(row(B, many(A))))),
    "a many of two turned about": (many(either(A, B)), many(row(many(A), many(B)))),
    "a row with an empty one": (row(A, EMPTY, B), AB),
    "rows within rows": (row(row(A, B), A), row(A, row(B, A))),
    "a row with none": (row(A, NONE, B), NONE),
    "a row of an or": (row(A, either(A, B)), either(row(A, A), AB)),
    "an or of rows": (row(either(A, B), A), either(row(A, A), BA)),
    "a row that goes round": (row(A, many(BA)), row(many(AB), A)),
    "the not of an or": (no(either(has(A), AB)), both(no(has(A)), no(AB))),
    "the not of an and": (no(both(has(A), times(2))), either(no(has(A)), no(times(2)))),
    "all and all": (ALL, EVERY),
    "none and none": (both(A, B), both(EMPTY, A)),
    "lengths": (both(times(2), times(3)), times(6)),
    "no ab": (no(has(AB)), row(many(B), many(A))),
    "unlike beginnings": (both(row(A, EVERY), row(EVERY, B)), row(A, EVERY, B)),
}

# Patterns and the first of the shortest texts over "ab" that fit just one of them.
UNLIKE = [
    (A, B, "a"), (A, EMPTY, ""), (NONE, EMPTY, ""), (NONE, A, "a"), (NONE, B, "b"), (A, ANY, "b"), (A, no(A), ""),
    (many(A), A, ""), (many(A), EVERY, "b"), (many(A), many(row(A, A)), "a"), (many(A), many(row(A, many(B))), "ab"),
    (AB, BA, "ab"), (row(A, ANY), row(ANY, B), "aa"), (row(B, ANY), row(ANY, A), "aa"), (row(B, B), BA, "ba"),
    (times(2), times(3), "aa"), (times(4), times(2), "aa"), (has(AB), has(BA), "ab"), (has(A), ALL, ""),
    (no(has(AB)), EVERY, "ab"), (row(EVERY, A), row(EVERY, B), "a"), (either(BA, row(A, A, A)), row(A, A, A), "ba"),
    (either(B, row(A, A)), either(NONE, NONE), "b"), (both(times(2), times(3)), EMPTY, "aaaaaa"),
    (row(many(A), many(B)), row(many(B), many(A)), "ab"), (row(*[A] * 9, ANY), row(*[A] * 9, B), "aaaaaaaaaa"),
]


class Table(unittest.TestCase):
    def check(self, letters, one, other):
        """What point 8 says of the table."""
        told = told_alike(letters, one, other)
        self.assertIs(type(told), tuple)
        self.assertEqual((len(told), told[0]), (2, "alike"), (one, other))
        table = told[1]
        self.assertIs(type(table), list)
        self.assertEqual(table[0], (one, other))
        standing = set(table)
        self.assertEqual(len(standing), len(table), "a pair stands twice")
        for pair in table:
            self.assertIs(type(pair), tuple)
            self.assertEqual(len(pair), 2)
            first, second = pair
            self.assertTrue(is_pattern(letters, first) and is_pattern(letters, second))
            self.assertIs(empty(first), empty(second))
            for letter in letters:
                self.assertIn((left(first, letter), left(second, letter)), standing)
        return table

    def test_patterns_that_say_the_same_in_other_ways(self):
        for name, (one, other) in ALIKE.items():
            with self.subTest(name):
                for letters in ["ab", "ba"]:
                    self.check(letters, one, other)
                    self.check(letters, other, one)

    def test_a_pattern_and_itself(self):
        for pattern in [NONE, EMPTY, A, AB, ANY, ALL] + list(HARD.values()):
            self.check("ab", pattern, pattern)
        for pattern in random_patterns(51, 300, "ab", 1, 25):
            self.check("ab", pattern, pattern)

    def test_the_two_come_first_just_as_they_were_handed_in(self):
        one = either(row(B, EMPTY), either(A, A), NONE)
        other = no(no(either(both(A, A), B, row(NONE, B))))
        table = self.check("ab", one, other)
        self.assertEqual(repr(table[0]), repr((one, other)))
        self.assertNotEqual(repr(table[0][0]), repr(table[0][1]))

    def test_letters_that_no_pattern_names(self):
        for name in ["a not of nots", "a many twice", "the not of an or", "a row of an or"]:
            self.check("cbad", *ALIKE[name])
        self.assertEqual(told_alike("abc", ALL, EVERY), ("unlike", "c"))

    def test_one_letter(self):
        self.check("a", many(A), ALL)
        self.check("a", both(*[many(row(*[A] * size)) for size in (2, 3, 5)]), many(row(*[A] * 30)))
        self.check("z", no(NONE), many(sign("z")))

    def test_random_patterns_said_in_other_ways(self):
        for pattern in random_patterns(52, 200, "ab", 1, 20):
            for other in [no(no(pattern)), either(pattern, pattern), both(ALL, pattern, pattern), row(EMPTY, pattern),
                          row(pattern, EMPTY), either(NONE, pattern), no(either(no(pattern), NONE))]:
                self.check("ab", pattern, other)
                self.check("ba", other, pattern)

    def test_patterns_of_just_60_nodes(self):
        wide, doubled = row(*[A] * 59), either(*[row(*[A] * 28)] * 2, NONE)
        self.assertEqual((nodes(wide), nodes(doubled)), (60, 60))
        self.assertGreaterEqual(len(self.check("ab", wide, wide)), 61)
        self.check("ab", row(row(*[A] * 29), *[A] * 29), row(*[A] * 58))
        self.check("a", doubled, row(*[A] * 28))
        self.check("ab", row(*[A] * 28), doubled)
        deep = AB
        for _ in range(57):
            deep = no(deep)
        self.assertEqual(nodes(deep), 60)
        self.check("ab", deep, no(AB))
        self.check("ab", deep, deep)
        great = either(*[A, B] * 29, A)
        self.assertEqual(nodes(great), 60)
        self.check("ab", great, ANY)
        self.check("ab", row(*[EVERY] * 14, many(A), A), row(EVERY, A))

    def test_long_tables(self):
        last = row(EVERY, A, *[ANY] * 7)
        self.assertGreaterEqual(len(self.check("ab", last, no(no(last)))), 256)

    def test_a_table_that_is_changed_changes_no_other(self):
        for one, other in ALIKE.values():
            table = told_alike("ab", one, other)[1]
            kept = list(table)
            second = told_alike("ab", one, other)[1]
            self.assertIsNot(table, second)
            table.reverse()
            table.append(None)
            table.clear()
            self.assertEqual(second, kept)
            self.assertEqual(told_alike("ab", one, other), ("alike", kept))


class Text(unittest.TestCase):
    def test_a_text_that_fits_just_one(self):
        for one, other, text in UNLIKE:
            self.assertEqual(told_alike("ab", one, other), ("unlike", text), (one, other))
            self.assertEqual(told_alike("ab", other, one), ("unlike", text), (one, other))

    def test_the_letters_order(self):
        for letters in ["abc", "cab", "bca", "acb", "cba", "bac"]:
            anyone = either(A, B, C)
            self.assertEqual(told_alike(letters, anyone, NONE), ("unlike", letters[0]))
            self.assertEqual(told_alike(letters, row(anyone, anyone), EMPTY), ("unlike", ""))
            self.assertEqual(told_alike(letters, row(anyone, anyone), NONE), ("unlike", letters[0] * 2))
            self.assertEqual(told_alike(letters, row(A, anyone), row(A, A)),
                             ("unlike", "a" + letters.replace("a", "")[0]))
            self.assertEqual(told_alike(letters, either(row(A, B), row(B, A)), NONE),
                             ("unlike", "ab" if letters.index("a") < letters.index("b") else "ba"))

    def test_what_is_told_is_a_tuple_with_a_text(self):
        told = told_alike("ab", A, EMPTY)
        self.assertIs(type(told), tuple)
        self.assertEqual([type(each) for each in told], [str, str])

    def test_none_is_shorter_and_none_of_the_shortest_comes_before(self):
        patterns = list(HARD.values()) + random_patterns(53, 120, "ab", 1, 12)
        for letters in ["ab", "ba"]:
            for one, other in zip(patterns, patterns[1:] + patterns[:1]):
                told = told_alike(letters, one, other)
                if told[0] == "alike":
                    continue
                for text in texts(letters, max(5, len(told[1]))):
                    unlike = means(one, text) != means(other, text)
                    self.assertIs(fits(letters, one, text) != fits(letters, other, text), unlike)
                    if unlike:
                        self.assertEqual(told[1], text, (one, other))
                        break

    def test_random_patterns_told_by_machines(self):
        for letters, seed, number in [("ab", 54, 500), ("ba", 55, 200), ("bca", 56, 150), ("a", 57, 100)]:
            patterns = random_patterns(seed, number, letters, 4, 24)
            machines = [plain_machine(letters, pattern) for pattern in patterns]
            for at in range(number - 1):
                text = first_difference(letters, machines[at], machines[at + 1])
                told = told_alike(letters, patterns[at], patterns[at + 1])
                self.assertEqual(told[0], "alike" if text is None else "unlike")
                if text is not None:
                    self.assertEqual(told[1], text)
                    self.assertEqual(told_alike(letters, patterns[at + 1], patterns[at]), told)

    def test_long_texts(self):
        self.assertEqual(told_alike("ab", row(*[B] * 59), NONE), ("unlike", "b" * 59))
        one = both(*[many(row(*[A] * size)) for size in (2, 3, 5, 7)])
        self.assertEqual(told_alike("a", one, EMPTY), ("unlike", "a" * 210))


class Refusals(unittest.TestCase):
    def test_no_letters_come_first(self):
        great = row(*[A] * 60)
        for letters in ["", "aa", "abcde", "A", "a1"] + ODD_THINGS:
            for one in [A, None, great, sign("z")]:
                for other in [B, None, great]:
                    self.assertRaises(NoLetters, told_alike, letters, one, other)

    def test_then_the_first_pattern_then_the_second_one(self):
        great, none, good = row(*[A] * 60), sign("c"), A
        for one, other, error in [
            (none, good, NoPattern), (none, none, NoPattern), (none, great, NoPattern), (great, good, TooGreat),
            (great, none, TooGreat), (great, great, TooGreat), (good, none, NoPattern), (good, great, TooGreat),
            (row(*[A] * 60, none), good, NoPattern), (good, row(none, *[A] * 60), NoPattern),
        ]:
            self.assertRaises(error, told_alike, "ab", one, other)

    def test_what_is_no_pattern_at_either_place(self):
        great = row(*[A] * 60)
        for thing in BAD + ODD_THINGS:
            self.assertRaises(NoPattern, told_alike, "abc", thing, A)
            self.assertRaises(NoPattern, told_alike, "abc", A, thing)
            self.assertRaises(NoPattern, told_alike, "abc", thing, great)
            self.assertRaises(TooGreat, told_alike, "abc", great, thing)


class NothingChanges(unittest.TestCase):
    def test_the_patterns_stay_and_the_answer_too(self):
        patterns = random_patterns(58, 120, "ab", 1, 20)
        for one, other in zip(patterns, patterns[1:] + patterns[:1]):
            before = repr((one, other))
            first = told_alike("ab", one, other)
            told_alike("ba", other, one)
            self.assertEqual(told_alike("ab", one, other), first)
            self.assertEqual(told_alike("ab", *eval(before)), first)
            self.assertEqual(repr((one, other)), before)


if __name__ == "__main__":
    unittest.main()
