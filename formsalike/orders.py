"""The orders of the entries of maps."""


def units(points):
    """The list of the UTF-16 code units of a text."""
    found = []
    for point in points:
        if point < 0x10000:
            found.append(point)
        else:
            high, low = divmod(point - 0x10000, 1024)
            found.extend([0xD800 + high, 0xDC00 + low])
    return found


def by_units(entries):
    """The list of the entries in ascending order of the code units of their keys."""
    return sorted(entries, key=lambda entry: units(entry[0]))


def by_points(entries):
    """The list of the entries in ascending order of the code points of their keys."""
    return sorted(entries, key=lambda entry: list(entry[0]))
