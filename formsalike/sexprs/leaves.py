"""Which values S-expressions have."""


def is_lacking(value):
    """Whether S-expressions lack this value, whatever is in it."""
    return value[0] not in ("bytes", "list")
