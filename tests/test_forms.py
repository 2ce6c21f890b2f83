"""The fixed form that left tells patterns in: bothreed.forms and bothreed.covering."""

import unittest

from bothreed.covering import covers
from bothreed.forms import normal
from bothreed.leaving import left
from tests.meaning import (
    A, ALL, ANY, B, EMPTY, EVERY, HARD, NONE, both, either, many, means, no, random_patterns, row, texts,
)

AB = row(A, B)
BA = row(B, A)

# Patterns, and the fixed form that each of them comes to.
FORMS = [
    (NONE, NONE), (EMPTY, EMPTY), (A, A), (ALL, ALL), (no(no(A)), A), (no(no(no(A))), no(A)),
    # or: nothing in it for nothing
    (either(B, A, B), ANY), (either(A, either(B, A)), ANY), (either(A, A), A), (either(NONE, A), A),
    (either(NONE, NONE), NONE), (either(A, ALL), ALL), (either(A, no(A)), ALL), (either(no(AB), ANY, AB), ALL),
    (either(A, both(A, EVERY)), A), (either(EMPTY, many(A)), many(A)), (either(EMPTY, A), either(EMPTY, A)),
    # and: likewise
    (both(EVERY, AB, EVERY), AB), (both(A, NONE), NONE), (both(A, ALL), A), (both(ALL, ALL), ALL),
    (both(A, no(A)), NONE), (both(EMPTY, A), NONE), (both(EMPTY, many(A)), EMPTY), (both(A, ANY), A),
    (both(many(A), both(many(B), many(A))), both(many(A), many(B))),
    # row: none within a row, an or at its beginning told apart
    (row(A, row(B, A)), row(A, B, A)), (row(A, EMPTY, B), AB), (row(EMPTY, EMPTY), EMPTY),
    (row(A, NONE), NONE), (row(EMPTY, A), A), (row(ANY, B), either(AB, row(B, B))),
    (row(many(A), many(A)), many(A)), (row(many(A), EVERY, many(B)), EVERY), (row(ALL, many(A)), ALL),
    (row(many(A), ALL, ALL), ALL), (row(many(A), A), row(many(A), A)), (row(no(A), many(A)), row(no(A), many(A))),
    # many: made of as few pieces as are seen to do
    (many(NONE), EMPTY), (many(EMPTY), EMPTY), (many(many(A)), many(A)), (many(ALL), ALL),
    (many(either(EMPTY, A)), many(A)), (many(either(many(A), B)), EVERY), (many(row(many(A), many(B))), EVERY),
    (many(either(A, row(A, A))), many(A)), (many(either(row(A, A), A, A)), many(A)), (many(AB), many(AB)),
    (many(row(A, many(B))), many(row(A, many(B)))),
]

# A pattern and another one that it is seen to cover.
COVERED = [
    (ALL, A), (A, NONE), (many(A), EMPTY), (no(A), EMPTY), (ANY, A), (ANY, either(B, A)), (A, both(A, EVERY)),
    (both(ANY, no(B)), both(no(B), A, ANY)), (no(A), no(ANY)), (many(A), row(A, A)), (many(A), many(row(A, A))),
    (EVERY, many(A)), (EVERY, row(many(A), B)), (row(many(A), B), B), (row(many(A), B), row(many(A), B)),
    (row(ANY, B), AB), (row(many(A), no(B), B, A), BA), (either(AB, row(ANY, A)), BA), (many(AB), AB),
]

NOT_COVERED = [
    (A, B), (A, EMPTY), (A, ALL), (NONE, A), (EMPTY, A), (AB, B), (AB, A), (B, AB), (AB, row(A, B, A)),
    (A, ANY), (both(A, B), A), (no(ANY), no(A)), (many(row(A, A)), A), (many(A), EVERY), (many(AB), BA),
    (row(A, many(B)), many(B)), (row(A, A, B), AB), (no(A), A),
]


class Covering(unittest.TestCase):
    def test_what_is_seen(self):
        for big, small in COVERED:
            self.assertIs(covers(big, small), True, (big, small))

    def test_what_is_not_so(self):
        for big, small in NOT_COVERED:
            self.assertIs(covers(big, small), False, (big, small))

    def test_what_is_seen_is_so(self):
        patterns = list(HARD.values()) + random_patterns(21, 120, "ab", 1, 7)
        fitting = [{text for text in texts("ab", 5) if means(pattern, text)} for pattern in patterns]
        seen = 0
        for big, more in zip(patterns, fitting):
            for small, fewer in zip(patterns, fitting):
                if covers(big, small):
                    self.assertLessEqual(fewer, more, (big, small))
                    seen += 1
        self.assertGreater(seen, 1000)


class Forms(unittest.TestCase):
    def test_the_form_of_each_shape(self):
        for pattern, form in FORMS:
            self.assertEqual(normal(pattern), form)

    def test_the_same_texts_fit(self):
        patterns = [pattern for pattern, _ in FORMS] + list(HARD.values())
        for pattern in patterns + random_patterns(22, 500, "ab", 2, 20):
            form = normal(pattern)
            for text in texts("ab", 5):
                self.assertIs(means(form, text), means(pattern, text), (pattern, text))

    def test_what_is_in_the_form_stays(self):
        for pattern in list(HARD.values()) + random_patterns(23, 500, "ab", 2, 25):
            self.assertEqual(normal(normal(pattern)), normal(pattern))

    def test_what_is_left_is_in_the_form(self):
        for pattern in list(HARD.values()) + random_patterns(24, 500, "ab", 2, 25):
            behind = left(left(pattern, "a"), "b")
            self.assertEqual(normal(behind), behind)


if __name__ == "__main__":
    unittest.main()
