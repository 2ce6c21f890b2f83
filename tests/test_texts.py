"""How patterns are written and read: bothreed.texts."""

import random
import unittest
from itertools import product

from bothreed.errors import NoLetters, NoText, PatternError, TooGreat
from bothreed.leaving import left
from bothreed.patterns import is_pattern, nodes
from bothreed.texts import read, shown
from tests.meaning import (
    A, ALL, ANY, B, EMPTY, EVERY, HARD, NONE, ODD_THINGS, both, either, many, no, random_patterns, row, sign,
)

AB = row(A, B)
C = sign("c")

# A pattern of each shape, and how it is written within each place of each other shape.
INNER = [NONE, EMPTY, A, AB, ANY, both(A, B), many(A), no(A)]
WITHIN = [
    ("{}c", lambda part: row(part, C), "[] () a (ab) (a|b) (a&b) a* !a"),
    ("c{}", lambda part: row(C, part), "[] () a (ab) (a|b) (a&b) a* !a"),
    ("c{}c", lambda part: row(C, part, C), "[] () a (ab) (a|b) (a&b) a* !a"),
    ("{}&c", lambda part: both(part, C), "[] () a ab (a|b) (a&b) a* !a"),
    ("c&{}", lambda part: both(C, part), "[] () a ab (a|b) (a&b) a* !a"),
    ("c&{}&c", lambda part: both(C, part, C), "[] () a ab (a|b) (a&b) a* !a"),
    ("{}|c", lambda part: either(part, C), "[] () a ab (a|b) a&b a* !a"),
    ("c|{}", lambda part: either(C, part), "[] () a ab (a|b) a&b a* !a"),
    ("c|{}|c", lambda part: either(C, part, C), "[] () a ab (a|b) a&b a* !a"),
    ("{}*", many, "[] () a (ab) (a|b) (a&b) a* (!a)"),
    ("!{}", no, "[] () a (ab) (a|b) (a&b) a* !a"),
]

# Patterns and the texts that write them.
WRITTEN = [
    (NONE, "[]"), (EMPTY, "()"), (A, "a"), (AB, "ab"), (ANY, "a|b"), (both(A, B), "a&b"), (many(A), "a*"), (no(A), "!a"),
    (no(many(A)), "!a*"), (many(no(A)), "(!a)*"), (row(A, no(B), C), "a!bc"), (many(many(many(A))), "a***"),
    (no(no(no(A))), "!!!a"), (many(no(no(A))), "(!!a)*"), (no(many(many(A))), "!a**"), (no(many(no(A))), "!(!a)*"),
    (many(no(many(A))), "(!a*)*"), (row(no(many(A)), many(no(A))), "!a*(!a)*"), (no(AB), "!(ab)"),
    (row(no(A), no(B)), "!a!b"), (no(row(A, no(B))), "!(a!b)"), (row(A, AB, C), "a(ab)c"), (row(AB, AB), "(ab)(ab)"),
    (either(AB, both(AB, C), A), "ab|ab&c|a"), (both(ANY, AB), "(a|b)&ab"), (either(A, either(B, C)), "a|(b|c)"),
    (either(either(A, B), C), "(a|b)|c"), (both(A, both(B, C)), "a&(b&c)"), (both(both(A, B), C), "(a&b)&c"),
    (row(row(A, B), C), "(ab)c"), (row(A, row(B, C)), "a(bc)"), (many(EMPTY), "()*"), (many(NONE), "[]*"),
    (no(EMPTY), "!()"), (ALL, "![]"), (row(EMPTY, NONE, EMPTY), "()[]()"), (either(EMPTY, NONE), "()|[]"),
    (EVERY, "(a|b)*"), (row(EVERY, A, B), "(a|b)*ab"), (row(A, A, A, A), "aaaa"), (either(A, B, C, A), "a|b|c|a"),
    (both(no(A), no(both(A, B)), many(both(A, B))), "!a&!(a&b)&(a&b)*"), (either(no(A), many(ANY)), "!a|(a|b)*"),
    (no(either(no(either(A, B)), C)), "!(!(a|b)|c)"), (row(both(A, either(B, C)), many(row(A, B))), "(a&(b|c))(ab)*"),
]

# Texts with brackets that tell nothing, and such that are not written so.
READ = [
    ("(a)", A), ("((a))", A), ("(())", EMPTY), ("((()))", EMPTY), ("([])", NONE), ("(a)b", AB), ("a(b)", AB),
    ("(a)(b)", AB), ("(ab)", AB), ("((a)(b))", AB), ("(a)*", many(A)), ("((a)*)*", many(many(A))), ("!(a)", no(A)),
    ("(!a)", no(A)), ("!(!a)", no(no(A))), ("(!a)b", row(no(A), B)), ("(a*)*", many(many(A))), ("!(a*)", no(many(A))),
    ("(a)|(b)", ANY), ("(a|b)", ANY), ("a|(bc)", either(A, row(B, C))), ("a|(b&c)", either(A, both(B, C))),
    ("(ab)&c", both(AB, C)), ("a&b|c", either(both(A, B), C)), ("a|b&c", either(A, both(B, C))),
    ("a&bc|a", either(both(A, row(B, C)), A)), ("(ab)|c", either(AB, C)), ("((a|b))|c", either(ANY, C)),
    ("!a*b*", row(no(many(A)), many(B))), ("!!a**", no(no(many(many(A))))), ("!()*", no(many(EMPTY))),
    ("![]*a", row(no(many(NONE)), A)), ("()()", row(EMPTY, EMPTY)), ("(()())", row(EMPTY, EMPTY)),
    ("(a)((b)(c))", row(A, row(B, C))), ("a!(b)*c", row(A, no(many(B)), C)), ("!a|!b", either(no(A), no(B))),
]

WRONG = [
    "", "(", ")", "[", "]", ")(", "(]", "[)", "][", "[a]", "[()]", "[[]]", "([)]", "(a", "a)", "((a)", "(a))", "(()", "())",
    "a(", "a[", "a]", "a)b(", "*", "!", "|", "&", "**", "!!", "||", "&&", "!*", "*a", "**a", "!*a", "(*)", "(*a)", "(!)",
    "(|)", "(&)", "a!", "a!!", "ab!", "!a!", "a|", "|a", "a||b", "a&", "&a", "a&&b", "a|&b", "a&|b", "|", "a|b|", "a&b&",
    "(a|)", "(|a)", "(a&)", "(&a)", "a|)", "(|a", "a|*", "a&*b", "a|*b", "!|a", "!&a", "a|!", "a&!", "a!|b", "a!&b", "(a!)",
    "a!*", "a!*b", "a(*b)", "a(!)b", "!)", "!()!", "()!", "d", "ad", "da", "a|d", "a&d", "(d)", "d*", "!d", "A", "aB", "a b",
    " ", "a ", " a", "( )", "[ ]", "a\n", "\n", "a\t", "a+", "a?", "a.", "{}", "a{2}", "^a", "~a", "a,b", "1", "\u00e4", "a\u00df",
    "\uff41", "\x00", "()[", "a*)", "(a*", "!(a", "none", "empty", "ab\u200b",
]


class Wrong(Exception):
    """The reader of this file met no pattern."""


class PlainReader:
    """Point 10 taken word by word, one function for each of them."""

    def __init__(self, letters, text):
        self.letters, self.text, self.at = letters, text, 0

    def pattern(self):
        found = self.branches()
        if self.at < len(self.text):
            raise Wrong
        return found

    def next_is(self, signs):
        return self.at < len(self.text) and self.text[self.at] in signs

    def several(self, kind, one, mark):
        parts = [one()]
        while self.next_is(mark):
            self.at += 1
            parts.append(one())
        return parts[0] if len(parts) == 1 else (kind, tuple(parts))

    def branches(self):
        return self.several("or", self.halves, "|")

    def halves(self):
        return self.several("and", self.items, "&")

    def items(self):
        parts = [self.item()]
        while self.next_is(self.letters + "(![]"):
            parts.append(self.item())
        return parts[0] if len(parts) == 1 else ("row", tuple(parts))

    def item(self):
        if self.next_is("!"):
            self.at += 1
            return ("not", self.item())
        found = self.atom()
        while self.next_is("*"):
            self.at += 1
            found = ("many", found)
        return found

    def atom(self):
        if self.text[self.at:self.at + 2] in ("()", "[]"):
            self.at += 2
            return EMPTY if self.text[self.at - 1] == ")" else NONE
        if self.next_is(self.letters):
            self.at += 1
            return ("sign", self.text[self.at - 1])
        if self.next_is("("):
            self.at += 1
            found = self.branches()
            if not self.next_is(")"):
                raise Wrong
            self.at += 1
            return found
        raise Wrong


def plain_read(letters, text):
    try:
        return PlainReader(letters, text).pattern()
    except Wrong:
        return None


def told_read(letters, text):
    try:
        return read(letters, text)
    except NoText:
        return None


class Shown(unittest.TestCase):
    def test_each_shape_at_each_place_within_each_other_one(self):
        for around, shape, inner in WITHIN:
            for part, text in zip(INNER, inner.split(), strict=True):
                self.assertEqual(shown(shape(part)), around.format(text), shape(part))

    def test_shapes_within_shapes_within_shapes(self):
        for pattern, text in WRITTEN:
            self.assertEqual(shown(pattern), text)
            self.assertIs(type(shown(pattern)), str)

    def test_any_letter(self):
        self.assertEqual(shown(row(sign("z"), many(sign("q")), no(sign("m")))), "zq*!m")

    def test_what_is_shown_is_read_as_the_pattern(self):
        for around, shape, inner in WITHIN:
            for part in INNER:
                self.assertEqual(read("abc", shown(shape(part))), shape(part))
                for _, outer, _ in WITHIN:
                    self.assertEqual(read("cab", shown(outer(shape(part)))), outer(shape(part)))
        for pattern in list(HARD.values()) + random_patterns(61, 3000, "ab", 1, 45):
            if nodes(pattern) <= 60:
                self.assertEqual(read("ab", shown(pattern)), pattern)

    def test_no_bracket_could_be_left_out(self):
        for pattern in random_patterns(62, 400, "ab", 4, 14):
            text = shown(pattern)
            for start, end in brackets(text):
                shorter = text[:start] + text[start + 1:end] + text[end + 1:]
                if text[start:end + 1] != "()":
                    self.assertNotEqual(told_read("ab", shorter), pattern, text)

    def test_what_left_tells(self):
        for pattern in list(HARD.values()) + random_patterns(63, 200, "ab", 5, 20):
            behind = left(left(pattern, "a"), "b")
            self.assertEqual(plain_read("ab", shown(behind)), behind)

    def test_patterns_of_just_60_nodes(self):
        deep = A
        for at in range(59):
            deep = many(deep) if at % 2 else no(deep)
        self.assertEqual(nodes(deep), 60)
        for pattern in [deep, row(*[A] * 59), either(*[EMPTY] * 59), both(*[no(A)] * 29, B), row(*[no(NONE)] * 29, B)]:
            self.assertEqual(nodes(pattern), 60)
            self.assertEqual(read("ab", shown(pattern)), pattern)
        self.assertEqual(shown(deep), "!" + "(!" * 29 + "a" + ")*" * 29)

    def test_the_pattern_stays_and_the_text_too(self):
        for pattern in random_patterns(64, 200, "ab", 1, 20):
            before = repr(pattern)
            first = shown(pattern)
            self.assertEqual(shown(pattern), first)
            self.assertEqual(shown(eval(before)), first)
            self.assertEqual(repr(pattern), before)


def brackets(text):
    """The places of each pair of round brackets."""
    found, opened = [], []
    for at, here in enumerate(text):
        if here == "(":
            opened.append(at)
        elif here == ")":
            found.append((opened.pop(), at))
    return found


class Read(unittest.TestCase):
    def test_what_is_written_as_it_is_shown(self):
        for pattern, text in WRITTEN:
            self.assertEqual(read("abc", text), pattern)
            self.assertIs(is_pattern("abc", read("abc", text)), True)

    def test_brackets_that_tell_nothing_and_what_binds_closer(self):
        for text, pattern in READ:
            self.assertEqual(read("abc", text), pattern, text)

    def test_several_stars_and_several_nots(self):
        pattern = A
        for number in range(1, 60):
            pattern = many(pattern)
            self.assertEqual(read("a", "a" + "*" * number), pattern)
        pattern = A
        for number in range(1, 60):
            pattern = no(pattern)
            self.assertEqual(read("a", "!" * number + "a"), pattern)
        self.assertEqual(read("ab", "b!!!a***b"), row(B, no(no(no(many(many(many(A)))))), B))

    def test_texts_that_write_no_pattern(self):
        for text in WRONG:
            self.assertRaises(NoText, read, "abc", text)

    def test_the_letters_are_those_that_are_told(self):
        self.assertEqual(read("z", "z"), sign("z"))
        self.assertEqual(read("ba", "ab"), AB)
        self.assertRaises(NoText, read, "a", "b")
        self.assertRaises(NoText, read, "ba", "abc")
        self.assertRaises(NoText, read, "xyz", "a")

    def test_things_that_are_no_text(self):
        for thing in ODD_THINGS + [["a"], ("a",), b"a*", A, 97]:
            self.assertRaises(NoText, read, "ab", thing)

    def test_all_short_texts(self):
        for size, signs in [(3, "abc()[]|&*! A"), (5, "a()|&*!"), (6, "a()*!"), (6, "a[]|!")]:
            for parts in product(signs, repeat=size):
                text = "".join(parts)
                self.assertEqual(told_read("ab", text), plain_read("ab", text), text)

    def test_random_long_texts(self):
        chance = random.Random(65)
        for pattern in random_patterns(66, 1500, "ab", 3, 30):
            text = shown(pattern)
            at = chance.randrange(len(text) + 1)
            for changed in [text[:at] + chance.choice("ab()[]|&*!") + text[at:], text[:at] + text[at + 1:],
                            text[:at] + "(" + text[at:] + ")", "(" + text + ")*", "!(" + text + ")"]:
                found = plain_read("ab", changed)
                if found is None or nodes(found) <= 60:
                    self.assertEqual(told_read("ab", changed), found, changed)

    def test_60_and_61_nodes(self):
        for good, bad in [
            ("a" * 59, "a" * 60), ("a" + "*" * 59, "a" + "*" * 60), ("!" * 59 + "a", "!" * 60 + "a"),
            ("|".join("a" * 59), "|".join("a" * 60)), ("&".join("b" * 59), "&".join("b" * 60)),
            ("()" * 59, "()" * 60), ("[]" * 59, "[]" * 60), ("(a*)" * 29 + "b", "(a*)" * 30), ("!a" * 29 + "b", "!a" * 30),
            ("((" + "a" * 59 + "))", "((" + "a" * 59 + "))*"), ("a*" * 29 + "a", "a*" * 29 + "aa"),
        ]:
            self.assertEqual(nodes(read("ab", good)), 60)
            self.assertRaises(TooGreat, read, "ab", bad)
        for text in ["a" * 400, "a" + "*" * 399, "!" * 399 + "a", "ab*" * 133, "a" + "|a" * 199, "()" * 200]:
            self.assertRaises(TooGreat, read, "ab", text)

    def test_what_writes_no_pattern_is_no_text_however_long(self):
        for text in ["a" * 399 + "c", "a" * 399 + ")", "(" + "a" * 399, "*" + "a" * 399, "a" * 399 + "!", "a" * 399 + "|",
                     "(" * 400, ")" * 400, "!" * 400, "|" * 400, "a|" * 200, "*" * 400, "[" * 400, " " * 400]:
            self.assertEqual(len(text), 400)
            self.assertRaises(NoText, read, "ab", text)

    def test_401_signs_are_too_many_whatever_they_write(self):
        for text in ["a" * 401, "(" * 200 + "a" + ")" * 200, "(" * 401, ")" * 401, "?" * 401, " " * 401, "A" * 401,
                     "!" * 401, "a" * 400 + "c", "()" * 200 + "a", "(" * 100000, "(" * 50000 + "a" + ")" * 50000,
                     "![]" * 40000, "\u00e4" * 500]:
            self.assertRaises(TooGreat, read, "ab", text)
        self.assertRaises(NoText, read, "ab", ["a"] * 401)
        self.assertRaises(NoText, read, "ab", b"a" * 401)
        self.assertRaises(NoText, read, "ab", None)

    def test_two_hundred_brackets_within_one_another(self):
        self.assertEqual(read("ab", "(" * 199 + "()" + ")" * 199), EMPTY)
        self.assertEqual(read("ab", "(" * 199 + "ab" + ")" * 199), AB)
        self.assertEqual(read("ab", "(" * 199 + "a" + ")" * 199), A)
        self.assertEqual(read("ab", "(" * 199 + "[]" + ")" * 199), NONE)
        self.assertRaises(NoText, read, "ab", "(" * 200 + ")" * 199 + "a")
        self.assertRaises(NoText, read, "ab", "(" * 200 + "a" + ")" * 199)
        self.assertRaises(NoText, read, "ab", "(" * 199 + "a" + ")" * 200)
        pattern = A
        for _ in range(29):
            pattern = many(no(pattern))
        self.assertEqual(read("ab", "((!" * 29 + "a" + ")*)" * 29), pattern)

    def test_deep_patterns_that_are_too_great(self):
        self.assertRaises(TooGreat, read, "ab", "(!" * 100 + "a" + ")*" * 99 + ")")
        self.assertRaises(TooGreat, read, "ab", "(a" * 133 + ")" * 133)

    def test_no_letters_come_first(self):
        for letters in ["", "aa", "abcde", "A", "a1"] + ODD_THINGS:
            for text in ["a", "", "(", None, "a" * 60, "a" * 401, ["a"]]:
                self.assertRaises(NoLetters, read, letters, text)

    def test_each_refusal_is_a_pattern_error(self):
        for letters, text in [("", "a"), ("a", "b"), ("a", "a" * 60), ("a", "a" * 401)]:
            self.assertRaises(PatternError, read, letters, text)

    def test_asked_again_it_is_the_same(self):
        for _, text in WRITTEN:
            first = read("abc", text)
            read("abc", "(a|b)*")
            self.assertEqual(read("abc", text), first)
        thing = ["a", ["b"]]
        self.assertRaises(NoText, read, "ab", thing)
        self.assertEqual(thing, ["a", ["b"]])


if __name__ == "__main__":
    unittest.main()
