"""What the tests share: patterns to ask about, and what the shapes mean, told by cutting texts."""

import random
from functools import lru_cache
from itertools import product

NONE = ("none",)
EMPTY = ("empty",)
ALL = ("not", NONE)


def sign(letter):
    return ("sign", letter)


def row(*parts):
    return ("row", parts)


def either(*parts):
    return ("or", parts)


def both(*parts):
    return ("and", parts)


def many(part):
    return ("many", part)


def no(part):
    return ("not", part)


A = sign("a")
B = sign("b")
ANY = either(A, B)
EVERY = many(ANY)

class Like:
    """A thing that says of itself that it is equal to everything."""

    def __eq__(self, other):
        return True

    def __hash__(self):
        return 0


# Things of many kinds that are neither letters nor a text nor a pattern.
ODD_THINGS = [
    None, True, False, 0, 1, -1, 1.5, 10 ** 30, (), [], {}, set(), frozenset("a"), b"", b"a", b"ab",
    ("a",), ["a"], ["a", "b"], ("a", "b"), {"a": 1}, {"a"}, range(2), object(), str, len, Ellipsis,
    iter("ab"), bytearray(b"a"), ValueError("a"), 1j, (("a",),), [["a"]],
    Like(), (Like(),),
]


@lru_cache(maxsize=None)
def means(pattern, text):
    """Whether a text fits, straight from the meaning of the shapes: by trying all cuts."""
    kind = pattern[0]
    if kind == "none":
        return False
    if kind == "empty":
        return text == ""
    if kind == "sign":
        return text == pattern[1]
    if kind == "not":
        return not means(pattern[1], text)
    if kind == "or":
        return any([means(part, text) for part in pattern[1]])
    if kind == "and":
        return all([means(part, text) for part in pattern[1]])
    if kind == "row":
        return row_means(pattern[1], text)
    if kind == "many":
        cuts = range(1, len(text) + 1)
        return text == "" or any(means(pattern[1], text[:k]) and means(pattern, text[k:]) for k in cuts)
    raise AssertionError(pattern)


@lru_cache(maxsize=None)
def row_means(parts, text):
    if not parts:
        return text == ""
    cuts = range(len(text) + 1)
    return any(means(parts[0], text[:k]) and row_means(parts[1:], text[k:]) for k in cuts)


def texts(letters, longest):
    """All texts over the letters up to a length."""
    return ["".join(signs) for size in range(longest + 1) for signs in product(letters, repeat=size)]


def random_pattern(chance, letters, size):
    """A pattern of about so many nodes."""
    if size <= 1:
        return chance.choice([NONE, EMPTY] + [sign(letter) for letter in letters] * 3)
    kind = chance.choice(["row", "row", "or", "and", "many", "not"])
    if kind in ("many", "not"):
        return (kind, random_pattern(chance, letters, size - 1))
    sizes = [1] * chance.choice([2, 2, 3])
    for _ in range(size - 1 - len(sizes)):
        sizes[chance.randrange(len(sizes))] += 1
    return (kind, tuple(random_pattern(chance, letters, part) for part in sizes))


def random_patterns(seed, many_of_them, letters, smallest, greatest):
    chance = random.Random(seed)
    found = []
    for _ in range(many_of_them):
        found.append(random_pattern(chance, letters, chance.randint(smallest, greatest)))
    return found


def has(part):
    """All texts over a and b that have a piece which fits."""
    return row(EVERY, part, EVERY)


def times(number):
    """All texts over a and b whose length is a multiple of the number."""
    return many(row(*[ANY] * number))


# Patterns over a and b whose leavings would be endless, or wrong, if they were not told in one form.
HARD = {
    "none": NONE,
    "empty": EMPTY,
    "sign": A,
    "not of a not": no(no(row(A, B))),
    "nested manys": many(many(many(row(many(A), many(many(B)))))),
    "many of or of manys": many(either(many(row(A, A)), many(row(A, A, A)), EMPTY)),
    "many of what takes nothing": many(row(either(EMPTY, A), either(EMPTY, row(B, B)))),
    "rows of manys": row(many(A), many(B), many(A), many(B), many(A)),
    "rows of manys of rows": row(many(row(A, B)), many(row(B, A)), many(row(A, A)), many(row(B, B, A))),
    "many of a row of manys": many(row(many(row(A, B)), many(row(B, A)), A)),
    "row of the same many": row(EVERY, EVERY, A, EVERY, EVERY),
    "not of a row": no(has(row(A, B))),
    "many of a not": many(no(row(EVERY, A, B, EVERY))),
    "many of a row with a not": many(row(A, no(row(B, no(row(A, B)), many(A))))),
    "nots within manys": many(row(no(many(row(B, no(many(row(A, no(row(A, B)))))))), A)),
    "row of nots": row(no(has(row(A, B))), no(has(row(B, A))), no(has(row(A, A)))),
    "row that ends in a not": row(no(row(EVERY, A)), no(row(EVERY, B)), B, no(row(A, EVERY, B))),
    "and of manys": both(times(2), times(3), times(5)),
    "many of an and": many(both(times(2), no(has(row(A, A))))),
    "row of ands": row(EVERY, both(times(3), has(row(A, A))), EVERY, B),
    "rows of ands and nots": row(EVERY, A, both(times(2), has(row(A, B))), no(has(row(A, A)))),
    "last but three": row(EVERY, A, ANY, ANY, ANY),
    "many of last but two": many(row(EVERY, A, ANY, ANY)),
    "not of last but two": no(row(EVERY, A, ANY, ANY)),
    "optional ones": row(*[either(EMPTY, A, B)] * 6),
    "many of optional ones": many(row(A, *[either(EMPTY, A, B)] * 5)),
    "and with its not": both(row(A, EVERY), no(row(A, EVERY)), EVERY),
    "or with its not": either(row(A, EVERY), no(row(A, EVERY)), A),
    "none within": row(A, either(NONE, many(NONE)), no(both(NONE, A)), B),
    "lengths": row(no(many(row(A, A))), no(many(row(A, A, A)))),
}
