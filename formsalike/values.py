"""The values: how they are made, the values in them, their depth."""

from formsalike.decimals import normal
from formsalike.errors import Doubled

DEEPEST = 24

NULL = ("null",)
TRUE = ("truth", True)
FALSE = ("truth", False)


def number(m, e=0):
    """The value of the number m * 10 ** e."""
    worth, exponent = normal(m, e)
    return ("number", worth, exponent)


def text(string):
    """The value of a text, from a string of ASCII characters."""
    return ("text", tuple([ord(character) for character in string]))


def list_of(items):
    """The value of a list with these items."""
    return ("list", tuple(items))


def map_of(entries):
    """The value of a map with these entries, which may come in any order."""
    table = {}
    for points, value in entries:
        key = tuple(points)
        if key in table:
            raise Doubled(key)
        table[key] = value
    return ("map", tuple([(key, table[key]) for key in sorted(table)]))


def parts(value):
    """The parts of a value, in order, a tuple."""
    if value[0] == "list":
        return value[1]
    if value[0] == "map":
        return tuple([entry[1] for entry in value[1]])
    return ()


def walk(value):
    """The value and all values in it, in preorder."""
    waiting = [value]
    while waiting:
        found = waiting.pop()
        yield found
        waiting.extend(parts(found)[::-1])


def depth(value):
    """How many lists and maps lie within one another at most."""
    deepest = 0
    waiting = [(value, 0)]
    while waiting:
        found, level = waiting.pop()
        if found[0] in ("list", "map"):
            level = level + 1
            deepest = max(deepest, level)
        waiting.extend([(part, level) for part in parts(found)])
    return deepest
