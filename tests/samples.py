"""Values, made by hand and at random, for the tests."""

import random

NULL = ("null",)
TRUE = ("truth", True)
FALSE = ("truth", False)

LEAVES = [
    NULL,
    TRUE,
    FALSE,
    ("number", 0, 0),
    ("number", -15, 3),
    ("number", 10 ** 1999 + 1, -(10 ** 999)),
    ("bytes", ()),
    ("bytes", (0, 255)),
    ("text", ()),
    ("text", (0, 34, 0xD7FF, 0xE000, 0x10FFFF)),
]

SMALL_TREES = [
    ("list", ()),
    ("map", ()),
    ("list", (NULL,)),
    ("list", (("list", ()), ("map", ()))),
    ("map", (((), NULL),)),
    ("map", (((97,), ("list", (TRUE, FALSE))), ((97, 98), ("map", (((0x10FFFF,), ("number", 1, 0)),))))),
]


def nested(levels, inner=None):
    """Lists and maps by turns, so many levels, around a value, or around nothing."""
    value = inner
    for level in range(levels):
        if level % 2 == 0:
            value = ("list", () if value is None else (value,))
        else:
            value = ("map", () if value is None else (((level,), value),))
    return value


def random_points(chance, most=4):
    pools = [(0, 127), (97, 99), (0x80, 0x7FF), (0xE000, 0xFFFF), (0x10000, 0x10FFFF)]
    points = []
    for _ in range(chance.randint(0, most)):
        points.append(chance.randint(*chance.choice(pools)))
    return tuple(points)


def random_number(chance):
    m = chance.choice([1, -1]) * chance.randint(0, 10 ** chance.randint(0, 25))
    while m != 0 and m % 10 == 0:
        m //= 10
    return ("number", m, 0 if m == 0 else chance.randint(-30, 30))


def random_leaf(chance, with_bytes=True):
    kind = chance.choice(["null", "truth", "number", "text"] + (["bytes"] if with_bytes else []))
    if kind == "null":
        return NULL
    if kind == "truth":
        return chance.choice([TRUE, FALSE])
    if kind == "number":
        return random_number(chance)
    if kind == "text":
        return ("text", random_points(chance))
    return ("bytes", tuple(chance.randint(0, 255) for _ in range(chance.randint(0, 4))))


def random_value(chance, levels=4, with_bytes=True):
    if levels == 0 or chance.random() < 0.3:
        return random_leaf(chance, with_bytes)
    many = chance.randint(0, 4)
    if chance.random() < 0.5:
        return ("list", tuple(random_value(chance, levels - 1, with_bytes) for _ in range(many)))
    keys = {random_points(chance) for _ in range(many)}
    return ("map", tuple((key, random_value(chance, levels - 1, with_bytes)) for key in sorted(keys)))


def random_values(seed, many, with_bytes=True):
    chance = random.Random(seed)
    return [random_value(chance, with_bytes=with_bytes) for _ in range(many)]
