"""Whether a thing is a value."""

from formsalike.values import DEEPEST, parts

LENGTHS = {"null": 1, "truth": 2, "number": 3, "bytes": 2, "text": 2, "list": 2, "map": 2}


def is_value(thing):
    """True if the thing is a value in normal form with at most depth 24, otherwise False."""
    # Things may be nested deeper than values, so the levels are counted before the parts are looked at.
    waiting = [(thing, 0)]
    while waiting:
        found, level = waiting.pop()
        if not _is_sound(found):
            return False
        if found[0] in ("list", "map"):
            if level == DEEPEST:
                return False
            waiting.extend([(part, level + 1) for part in parts(found)])
    return True


def _is_sound(thing):
    """Whether the thing is a value, if its parts are."""
    if not isinstance(thing, tuple) or len(thing) == 0 or not isinstance(thing[0], str):
        return False
    if LENGTHS.get(thing[0], 0) != len(thing):
        return False
    if thing[0] == "number":
        return _is_number(thing[1], thing[2])
    return thing[0] == "null" or _fits(thing[0], thing[1])


def _fits(kind, content):
    """Whether the content can stand in a value of this kind, if its parts are values."""
    if kind == "truth":
        return content is True or content is False
    if not isinstance(content, tuple):
        return False
    if kind == "bytes":
        return all([_is_octet(octet) for octet in content])
    if kind == "text":
        return _is_text(content)
    return kind == "list" or _are_entries(content)


def _is_integer(thing):
    return isinstance(thing, int) and not isinstance(thing, bool)


def _is_number(m, e):
    if not _is_integer(m) or not _is_integer(e):
        return False
    return m % 10 != 0 or (m == 0 and e == 0)


def _is_octet(thing):
    return _is_integer(thing) and 0 <= thing <= 255


def _is_point(thing):
    return _is_integer(thing) and 0 <= thing <= 0x10FFFF and not 0xD800 <= thing <= 0xDFFF


def _is_text(thing):
    return isinstance(thing, tuple) and all([_is_point(point) for point in thing])


def _are_entries(entries):
    """Whether these are pairs with keys that ascend strictly."""
    last = None
    for entry in entries:
        if not isinstance(entry, tuple) or len(entry) != 2 or not _is_text(entry[0]):
            return False
        if last is not None and entry[0] <= last:
            return False
        last = entry[0]
    return True
