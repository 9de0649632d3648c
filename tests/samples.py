"""Values, made by hand and at random, for the tests."""

import random

NULL = ("null",)
TRUE = ("truth", True)
FALSE = ("truth", False)

# The kinds of values that the forms have; all kinds under the name of the form that lacks no value.
KINDS = {
    "json": ("null", "truth", "number", "text", "list", "map"),
    "cbor": ("null", "truth", "number", "bytes", "text", "list", "map"),
    "ber": ("null", "truth", "number", "bytes", "text", "list", "map"),
    "bencode": ("number", "bytes", "list", "map"),
    "sexp": ("bytes", "list"),
}
ALL_KINDS = "ber"

LEAVES = [
    NULL,
    TRUE,
    FALSE,
    ("number", 0, 0),
    ("number", -15, 3),
    ("number", 10 ** 1999 + 1, -(10 ** 999)),
    ("bytes", ()),
    ("bytes", (0, 255)),
    ("text", ()),
    ("text", (0, 34, 0xD7FF, 0xE000, 0x10FFFF)),
]

SMALL_TREES = [
    ("list", ()),
    ("map", ()),
    ("list", (NULL,)),
    ("list", (("list", ()), ("map", ()))),
    ("map", (((), NULL),)),
    ("map", (((97,), ("list", (TRUE, FALSE))), ((97, 98), ("map", (((0x10FFFF,), ("number", 1, 0)),))))),
]


def nested(levels, inner=None, with_maps=True):
    """Lists and maps by turns, or lists alone, so many levels, around a value, or around nothing."""
    value = inner
    for level in range(levels):
        if level % 2 == 0 or not with_maps:
            value = ("list", () if value is None else (value,))
        else:
            value = ("map", () if value is None else (((level,), value),))
    return value


def random_points(chance, most=4):
    pools = [(0, 127), (97, 99), (0x80, 0x7FF), (0xE000, 0xFFFF), (0x10000, 0x10FFFF)]
    points = []
    for _ in range(chance.randint(0, most)):
        points.append(chance.randint(*chance.choice(pools)))
    return tuple(points)


def random_number(chance, least=-30):
    m = chance.choice([1, -1]) * chance.randint(0, 10 ** chance.randint(0, 25))
    while m != 0 and m % 10 == 0:
        m //= 10
    return ("number", m, 0 if m == 0 else chance.randint(least, 30))


def random_octets(chance, most=4):
    return tuple(chance.randint(0, 255) for _ in range(chance.randint(0, most)))


def random_leaf(chance, form=ALL_KINDS):
    """A value without parts, of a kind that the form has."""
    kind = chance.choice([kind for kind in KINDS[form] if kind not in ("list", "map")])
    if kind == "null":
        return NULL
    if kind == "truth":
        return chance.choice([TRUE, FALSE])
    if kind == "number":
        return random_number(chance, 0 if form == "bencode" else -30)
    if kind == "text":
        return ("text", random_points(chance))
    return ("bytes", random_octets(chance))


def random_value(chance, levels=4, form=ALL_KINDS):
    """A value that the form has."""
    if levels == 0 or chance.random() < 0.3:
        return random_leaf(chance, form)
    many = chance.randint(0, 4)
    if "map" not in KINDS[form] or chance.random() < 0.5:
        return ("list", tuple(random_value(chance, levels - 1, form) for _ in range(many)))
    keys = {random_points(chance) for _ in range(many)}
    return ("map", tuple((key, random_value(chance, levels - 1, form)) for key in sorted(keys)))


def random_values(seed, many, form=ALL_KINDS):
    chance = random.Random(seed)
    return [random_value(chance, chance.randint(0, 4), form) for _ in range(many)]


def spoiled(octets, chance, pool):
    """The octets with one or two faults; what is put in comes from the pool."""
    changed = bytearray(octets)
    for _ in range(chance.randint(1, 2)):
        at = chance.randint(0, len(changed))
        fault = chance.choice(["out", "in", "change", "behind", "double", "cut"])
        if fault == "out":
            del changed[at:at + 1]
        elif fault == "in":
            changed.insert(at, chance.choice(pool))
        elif fault == "change":
            changed[at:at + 1] = bytes([chance.choice(pool)])
        elif fault == "behind":
            changed.append(chance.choice(pool))
        elif fault == "double":
            changed[at:at] = changed[at:at + chance.randint(1, 5)]
        else:
            del changed[at:]
    return bytes(changed)
